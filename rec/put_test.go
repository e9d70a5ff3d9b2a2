package rec_test

import (
	"bytes"
	"math/rand"
	"strings"
	"testing"

	"bindle/api"
	"bindle/num"
	"bindle/rec"
)

// P13.1: the bytes of a few items, written out.
func TestPut(t *testing.T) {
	for _, c := range []struct {
		x    api.Item
		want string
	}{
		{api.Item{}, "\x00\x00\x00\x00" + "\x00\x00\x00\x00\x00\x00\x00\x00" + "\x00\x00\x00\x00"},
		{api.Item{Key: "k"}, "\x00\x00\x00\x01k" + "\x00\x00\x00\x00\x00\x00\x00\x00" + "\x00\x00\x00\x00"},
		{item("", 1, ""), "\x00\x00\x00\x00" + "\x00\x00\x00\x00\x00\x00\x00\x01" + "\x00\x00\x00\x00"},
		{item("", 0, "d"), "\x00\x00\x00\x00" + "\x00\x00\x00\x00\x00\x00\x00\x00" + "\x00\x00\x00\x01d"},
		{item("ab", 0x0102030405060708, "xyz"), "\x00\x00\x00\x02ab" + "\x01\x02\x03\x04\x05\x06\x07\x08" + "\x00\x00\x00\x03xyz"},
		{item("\xff", num.Max, "\x00"), "\x00\x00\x00\x01\xff" + "\x40\x00\x00\x00\x00\x00\x00\x00" + "\x00\x00\x00\x01\x00"},
	} {
		b, ok := rec.Put(c.x)
		if !ok || string(b) != c.want {
			t.Errorf("Put of %s: %q, %v, not %q", told(c.x), b, ok, c.want)
		}
		x, n, ok := rec.Get([]byte(c.want))
		if !ok || n != len(c.want) || !modelSame(x, c.x) {
			t.Errorf("Get of %q: %s, %d, %v", c.want, told(x), n, ok)
		}
	}
	if b, ok := rec.Put(api.Item{Key: "a"}); !ok || len(b) != 17 {
		t.Error("the chapter's example:", b, ok)
	}
}

// P13.1: lengths have four bytes, the highest first.
func TestPutLengths(t *testing.T) {
	for size, want := range map[int]string{0: "\x00\x00\x00\x00", 255: "\x00\x00\x00\xff", 256: "\x00\x00\x01\x00", 0x10203: "\x00\x01\x02\x03", api.MaxBody: "\x00\x10\x00\x00"} {
		b, ok := rec.Put(api.Item{Key: strings.Repeat("k", 200), Data: make([]byte, size)})
		if !ok || len(b) != 216+size || string(b[:4]) != "\x00\x00\x00\xc8" || string(b[212:216]) != want {
			t.Errorf("Put of data of %d bytes: %d bytes, %v", size, len(b), ok)
		}
	}
}

// P13.1: Put of all edges together, of items that may be and that may not be.
func TestPutEdges(t *testing.T) {
	for _, key := range someKeys() {
		for _, seq := range seqs() {
			for _, data := range someData() {
				put(t, item(key, seq, data))
			}
		}
	}
}

// P13.1: keys and data of each length near their bounds, and a Seq of each number of bits.
func TestPutBounds(t *testing.T) {
	for n := range 300 {
		put(t, item(strings.Repeat("\x80", n), n, strings.Repeat("\x01", n)))
	}
	for n := api.MaxBody - 2; n < api.MaxBody+3; n++ {
		put(t, api.Item{Key: "k", Seq: n, Data: bytes.Repeat([]byte{7}, n)})
	}
	put(t, api.Item{Data: make([]byte, 5*api.MaxBody)})
	put(t, api.Item{Key: strings.Repeat("k", 1<<20)})
	for bit := range 64 {
		for d := -2; d < 3; d++ {
			put(t, item("k", int(uint64(1)<<bit)+d, "d"))
		}
	}
	for d := -2; d < 3; d++ {
		put(t, item("k", num.Max+d, "d"))
	}
}

// P13.1: items that are drawn.
func TestPutDrawn(t *testing.T) {
	pick := rand.New(rand.NewSource(131))
	for range 20000 {
		key := make([]byte, pick.Intn(210))
		data := make([]byte, pick.Intn(600))
		pick.Read(key)
		pick.Read(data)
		put(t, api.Item{Key: string(key), Seq: int(pick.Uint64() >> pick.Intn(64)), Data: data})
	}
}

// P13.1: the same in all fields, nil and empty alike; whether they may be is not asked.
func TestSame(t *testing.T) {
	if !rec.Same(api.Item{}, api.Item{Data: []byte{}}) || !rec.Same(api.Item{Data: []byte{}}, api.Item{}) {
		t.Error("nil and empty")
	}
	var list []api.Item
	for _, key := range someKeys() {
		for _, seq := range []int{0, 1, num.Max, num.Max + 1, -1} {
			for _, data := range someData() {
				list = append(list, item(key, seq, data))
			}
		}
	}
	for i, a := range list {
		for j, b := range list {
			if rec.Same(a, b) != (i == j) {
				t.Fatalf("Same of %s and %s: not %v", told(a), told(b), i == j)
			}
		}
		again := api.Item{Key: strings.Clone(a.Key), Seq: a.Seq, Data: append(make([]byte, 0, 100), a.Data...)}
		if !rec.Same(a, again) {
			t.Errorf("Same of %s and a copy: false", told(a))
		}
	}
}

// P13.1: one byte, or one step, apart.
func TestSameNear(t *testing.T) {
	a := item("key", 5, "data")
	for _, b := range []api.Item{
		item("kez", 5, "data"), item("Key", 5, "data"), item("ke", 5, "data"), item("keyy", 5, "data"), item("", 5, "data"),
		item("key", 4, "data"), item("key", 6, "data"), item("key", -5, "data"), item("key", 0, "data"),
		item("key", 5, "datb"), item("key", 5, "Data"), item("key", 5, "dat"), item("key", 5, "dataa"), item("key", 5, ""),
		{Key: "key", Seq: 5}, item("keyd", 5, "ata"), item("data", 5, "key"),
	} {
		if rec.Same(a, b) || rec.Same(b, a) {
			t.Errorf("Same of %s and %s", told(a), told(b))
		}
	}
}

// R4: Put changes nothing that is handed in, and answers new memory each time.
func TestPutMemory(t *testing.T) {
	room := []byte("abcdefgh")
	x := api.Item{Key: "k", Data: room[2:4]}
	one, _ := rec.Put(x)
	two, _ := rec.Put(x)
	if string(room) != "abcdefgh" {
		t.Errorf("changed: %q", room)
	}
	want := bytes.Clone(two)
	whole := one[:cap(one)]
	for i := range whole {
		whole[i] = '!'
	}
	if string(room) != "abcdefgh" || !bytes.Equal(two, want) {
		t.Errorf("shared: %q, %q", room, two)
	}
	room[2] = '?'
	if !bytes.Equal(two, want) {
		t.Errorf("kept: %q", two)
	}
}
