package rec_test

import (
	"bytes"
	"encoding/binary"
	"math/rand"
	"slices"
	"strings"
	"testing"

	"bindle/api"
	"bindle/num"
	"bindle/rec"
)

// none expects Get of b to answer that there is no item.
func none(t *testing.T, b []byte) {
	t.Helper()
	x, n, ok := rec.Get(b)
	if ok || n != 0 || x.Key != "" || x.Seq != 0 || len(x.Data) > 0 {
		t.Errorf("Get of %.60q (%d): %s, %d, %v", b, len(b), told(x), n, ok)
	}
}

// P13.1: bytes that are cut off anywhere are no item; what stands behind one is left.
func TestGetCut(t *testing.T) {
	for _, x := range []api.Item{{}, item("k", 0, ""), item("", 1, "d"), item("key", num.Max, "data"), item(strings.Repeat("k", 200), 1, strings.Repeat("d", 300))} {
		b := laid(x)
		for n := range b {
			none(t, b[:n])
			none(t, b[:n:n])
		}
		for _, more := range []string{"", "\x00", "\xff", "more", string(b)} {
			y, n, ok := rec.Get(append(bytes.Clone(b), more...))
			if !ok || n != len(b) || !modelSame(x, y) {
				t.Errorf("Get of %s and %.20q: %s, %d, %v", told(x), more, told(y), n, ok)
			}
		}
	}
	none(t, nil)
	none(t, []byte{})
}

// P13.1: a length or a Seq above what may be is no item, though all its bytes are there.
func TestGetLarge(t *testing.T) {
	for _, x := range []api.Item{
		item(strings.Repeat("k", 201), 0, ""), item(strings.Repeat("k", 256), 0, ""), item(strings.Repeat("k", 456), 0, "d"), item(strings.Repeat("\x00", 1<<16), 0, ""),
		item("k", num.Max+1, ""), item("k", num.Max+2, "d"), item("k", 1<<62+1<<61, ""), item("k", 1<<63-1, ""), item("k", -1, ""), item("k", -1<<63, ""),
		{Data: make([]byte, api.MaxBody+1)}, {Key: "k", Data: make([]byte, 2*api.MaxBody)}, {Data: make([]byte, 1<<24)},
	} {
		none(t, laid(x))
		none(t, append(laid(x), 0))
	}
	full := api.Item{Key: strings.Repeat("\xff", api.MaxPath), Seq: num.Max, Data: bytes.Repeat([]byte{0xff}, api.MaxBody)}
	x, n, ok := rec.Get(append(laid(full), laid(full)...))
	if !ok || n != 4+200+8+4+1<<20 || !modelSame(x, full) {
		t.Errorf("as large as it may be: %s, %d, %v", told(x), n, ok)
	}
}

// P13.1: lengths with their highest bit, or all of their bits, do not wrap round.
func TestGetWrap(t *testing.T) {
	for _, size := range []uint32{201, 255, 256, 1 << 16, 1 << 20, 1<<20 + 1, 1 << 24, 1<<31 - 1, 1 << 31, 1<<31 + 1, 1<<32 - 1, 1<<32 - 4} {
		none(t, append(binary.BigEndian.AppendUint32(nil, size), make([]byte, 100)...))
		b := append(laid(item("k", 3, ""))[:13], binary.BigEndian.AppendUint32(nil, size)...)
		none(t, append(b, make([]byte, 50)...))
	}
	for _, seq := range []uint64{1<<62 + 1, 1<<63 - 1, 1 << 63, 1<<63 + 1, 1<<63 + 1<<62, 1<<64 - 1} {
		b := binary.BigEndian.AppendUint64(make([]byte, 4), seq)
		none(t, append(b, 0, 0, 0, 0))
	}
	b := binary.BigEndian.AppendUint64(make([]byte, 4), 1<<62)
	if x, n, ok := rec.Get(append(b, 0, 0, 0, 0)); !ok || n != 16 || x.Seq != num.Max {
		t.Error("a Seq of Max:", told(x), n, ok)
	}
}

// P13.1: each byte of an item's bytes changed to each other one, against a model.
func TestGetChanged(t *testing.T) {
	for _, x := range []api.Item{{}, item("k", 1, "d"), item("key", num.Max, ""), item("\x00\x00\x00\x00\x00", 1<<32, "\x00\x01\x02")} {
		b := append(laid(x), 0, 0, 1, 0, 2)
		for i := range b {
			old := b[i]
			for c := range 256 {
				b[i] = byte(c)
				get(t, b)
			}
			b[i] = old
			get(t, slices.Delete(bytes.Clone(b), i, i+1))
			get(t, slices.Insert(bytes.Clone(b), i, 0))
			get(t, slices.Insert(bytes.Clone(b), i, 0xff))
		}
	}
}

// P13.1: bytes that are drawn, mostly 0, against a model.
func TestGetDrawn(t *testing.T) {
	pick := rand.New(rand.NewSource(132))
	found := 0
	for range 50000 {
		b := make([]byte, pick.Intn(60))
		for i := range b {
			if pick.Intn(8) == 0 {
				b[i] = byte(pick.Intn(1 << (1 + pick.Intn(8))))
			}
		}
		get(t, b)
		if _, _, ok := rec.Get(b); ok {
			found++
		}
	}
	if found < 5000 || found > 45000 {
		t.Error("drawn badly:", found)
	}
}

// P13.1: items that stand one behind another are read one by one.
func TestGetMany(t *testing.T) {
	pick := rand.New(rand.NewSource(133))
	var list []api.Item
	var b []byte
	for i := range 1000 {
		x := item(strings.Repeat("k", pick.Intn(201)), i, strings.Repeat("d", pick.Intn(300)))
		list = append(list, x)
		one, _ := rec.Put(x)
		b = append(b, one...)
	}
	for _, want := range list {
		x, n, ok := rec.Get(b)
		if !ok || !modelSame(x, want) {
			t.Fatalf("Get: %s, %v, not %s", told(x), ok, told(want))
		}
		b = b[n:]
	}
	if len(b) > 0 {
		t.Error("left:", len(b))
	}
}

// R4: Get changes nothing that is handed in, spare room included, and answers new memory each time.
func TestGetMemory(t *testing.T) {
	room := append(laid(item("key", 7, "data")), "spare"...)
	old := bytes.Clone(room)
	b := room[:len(room)-5]
	one, _, _ := rec.Get(b)
	two, _, _ := rec.Get(b)
	whole := one.Data[:cap(one.Data)]
	for i := range whole {
		whole[i] = '!'
	}
	if !bytes.Equal(room, old) || string(two.Data) != "data" {
		t.Errorf("shared: %q, %s", room, told(two))
	}
	for i := range room {
		room[i] = '?'
	}
	if !modelSame(two, item("key", 7, "data")) {
		t.Errorf("kept: %s", told(two))
	}
}
