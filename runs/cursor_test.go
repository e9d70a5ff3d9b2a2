package runs_test

import (
	"fmt"
	"math"
	"math/rand"
	"runtime"
	"strings"
	"testing"

	"bindle/api"
	"bindle/num"
	"bindle/runs"
	"bindle/store"
)

// P16.2: items come as they stand there, in whatever order, and then nothing comes.
func TestNext(t *testing.T) {
	great := item(strings.Repeat("k", api.MaxPath), num.Max, strings.Repeat("d", api.MaxBody))
	for what, list := range map[string][]api.Item{
		"none":            nil,
		"an empty one":    {{}},
		"empty ones":      {{}, {}, {}},
		"one":             {item("a", 1, "d")},
		"rising":          {item("a", 1, "d"), item("a", 2, ""), item("b", 0, "dd")},
		"falling":         {item("c", 0, "1"), item("b", 0, "22"), item("b", 0, "333"), item("a", 9, "4444")},
		"bytes of any":    {item("\x00\xff", 1<<56, "\x00\x00\x00\x00\xff"), item("\x00", 255, "\x00")},
		"great and small": {item("a", 0, ""), great, item("b", 0, "d"), great, great, item("", 0, "")},
		"lengths":         {item(strings.Repeat("a", 199), 256, strings.Repeat("d", 255)), item(strings.Repeat("a", 200), 65536, strings.Repeat("d", 256)), item("a", 0, strings.Repeat("d", 65536))},
	} {
		s, run := filled(t, wires(list...))
		gives(t, what, runs.Open(s, run), list...)
		if s.Writes() != 1 || bytesOf(s, run) != wires(list...) {
			t.Errorf("%s: the store is changed", what)
		}
	}
}

// P16.2: many items that are drawn, as Put has them.
func TestNextDrawn(t *testing.T) {
	pick := rand.New(rand.NewSource(164))
	for range 200 {
		var list []api.Item
		for range pick.Intn(40) {
			x := api.Item{Key: strings.Repeat(string([]byte{byte(pick.Intn(256))}), pick.Intn(api.MaxPath+1)), Seq: pick.Intn(num.Max), Data: make([]byte, pick.Intn(400))}
			pick.Read(x.Data)
			list = append(list, x)
		}
		s, run := filled(t, wires(list...))
		gives(t, fmt.Sprint(len(list)), runs.Open(s, run), list...)
	}
}

// P16.2: nothing comes where there is no store, no run, no bytes or no cursor.
func TestNextNothing(t *testing.T) {
	for _, run := range []int{0, 1, -1, math.MaxInt, math.MinInt} {
		gives(t, "a nil store", runs.Open(nil, run))
	}
	s, _ := filled(t, wire(item("a", 0, "")))
	gives(t, "an empty run", runs.Open(s, 0))
	s.Append(0, []byte(wire(item("b", 0, ""))))
	for _, run := range []int{2, -1, math.MaxInt, math.MinInt} {
		gives(t, fmt.Sprint("run ", run), runs.Open(s, run))
	}
	s.Drop(1)
	gives(t, "a run that is gone", runs.Open(s, 1))
	var none *runs.Cursor
	gives(t, "a nil cursor", none)
	gives(t, "a cursor that Open did not make", new(runs.Cursor))
}

// P16.2: of a run that is cut off at any byte those items come that are whole.
func TestNextCut(t *testing.T) {
	first, next := item("key", 7, "some data"), item("longer key", 8, "d")
	whole := wires(first, next)
	for n := range len(whole) {
		s, run := filled(t, whole[:n])
		if n < len(wire(first)) {
			gives(t, fmt.Sprint(n, " bytes"), runs.Open(s, run))
		} else {
			gives(t, fmt.Sprint(n, " bytes"), runs.Open(s, run), first)
		}
	}
}

// strange are bytes with which no item begins, with enough bytes behind their lengths.
func strange() map[string]string {
	rest := strings.Repeat("\x00", 3*api.MaxBody)
	long := "\x00\x00\x00\xc9" + strings.Repeat("k", 201)
	return map[string]string{
		"a Key that is too long":  long + wire(api.Item{})[4:] + rest,
		"a Key of 256 bytes":      "\x00\x00\x01\x00" + rest,
		"a Key of 2^24 bytes":     "\x01\x00\x00\x00" + rest,
		"a Key of 2^31 bytes":     "\x80\x00\x00\x00" + rest,
		"a Key of 2^32 - 1 bytes": "\xff\xff\xff\xff" + rest,
		"a Seq above num.Max":     "\x00\x00\x00\x01k\x40\x00\x00\x00\x00\x00\x00\x01" + rest,
		"a Seq of 2^63":           "\x00\x00\x00\x01k\x80\x00\x00\x00\x00\x00\x00\x00" + rest,
		"a Seq of -1":             "\x00\x00\x00\x01k\xff\xff\xff\xff\xff\xff\xff\xff" + rest,
		"Data that are too long":  "\x00\x00\x00\x01k\x00\x00\x00\x00\x00\x00\x00\x05\x00\x10\x00\x01" + rest,
		"Data of 2^31 bytes":      "\x00\x00\x00\x01k\x00\x00\x00\x00\x00\x00\x00\x05\x80\x00\x00\x00" + rest,
		"Data of 2^32 - 1 bytes":  "\x00\x00\x00\x01k\x00\x00\x00\x00\x00\x00\x00\x05\xff\xff\xff\xff" + rest,
	}
}

// P16.2: where what stands there is no item, nothing comes, and nothing that stands behind it.
func TestNextStrange(t *testing.T) {
	first := item("key", 7, "some data")
	for what, b := range strange() {
		s, run := filled(t, b)
		gives(t, what, runs.Open(s, run))
		s, run = filled(t, wires(first, first)+b+wire(first))
		gives(t, what, runs.Open(s, run), first, first)
	}
}

// P16.2 with R5: cursors beside one another have each its own place, also of one run.
func TestNextApart(t *testing.T) {
	s := store.New(1000, nil)
	f, _ := runs.New(s, 3)
	f.Add(item("c", 0, "3"), item("b", 0, "2"), item("a", 0, "1"), item("d", 0, "4"))
	f.Close()
	one, two, other := runs.Open(s, 0), runs.Open(s, 0), runs.Open(s, 1)
	one.Next()
	one.Next()
	gives(t, "two", two, item("a", 0, "1"), item("b", 0, "2"), item("c", 0, "3"))
	gives(t, "one", one, item("c", 0, "3"))
	gives(t, "other", other, item("d", 0, "4"))
	gives(t, "again", runs.Open(s, 0), item("a", 0, "1"), item("b", 0, "2"), item("c", 0, "3"))
}

// P16.2 with R5: what comes hangs on what the store has when it is asked: a run that grows, and one that goes away.
func TestNextLater(t *testing.T) {
	first, next := item("a", 0, "first"), item("b", 0, "next")
	s := store.New(1000, nil)
	early := runs.Open(s, 0)
	gives(t, "no run yet", early)
	s.Create()
	gives(t, "an empty run", early)
	s.Append(0, []byte(wire(first)))
	gives(t, "a first item", early, first)
	for i := range len(wire(next)) {
		gives(t, fmt.Sprint(i, " bytes"), early)
		s.Append(0, []byte(wire(next)[i:i+1]))
	}
	late := runs.Open(s, 0)
	late.Next()
	gives(t, "a next item", early, next)
	s.Drop(0)
	gives(t, "a run that is gone", late)
	gives(t, "a run that is gone", early)
}

// R4: an item that comes shares no memory with the store, or with another one.
func TestNextMemory(t *testing.T) {
	x := item("key", 7, "some data")
	s, run := filled(t, wires(x, x))
	one, _ := runs.Open(s, run).Next()
	two, _ := runs.Open(s, run).Next()
	whole := one.Data[:cap(one.Data)]
	for i := range whole {
		whole[i] = '!'
	}
	if told(two) != told(x) {
		t.Error(told(two))
	}
	c := runs.Open(s, run)
	three, _ := c.Next()
	_ = append(three.Data, "????????????????????????"...)
	gives(t, "behind a changed one", c, x)
	gives(t, "again", runs.Open(s, run), x, x)
}

// spent is how many bytes of memory a call took.
func spent(call func()) int {
	var before, after runtime.MemStats
	runtime.ReadMemStats(&before)
	call()
	runtime.ReadMemStats(&after)
	return int(after.TotalAlloc - before.TotalAlloc)
}

// P16.2: no more than one item's bytes are held: a small one takes little memory, whatever stands behind it.
func TestNextSmall(t *testing.T) {
	small, great := item("k", 7, strings.Repeat("s", 250)), item("k", 8, strings.Repeat("d", api.MaxBody))
	rest := strings.Repeat(wire(small), 1000) + strings.Repeat(wire(great), 3)
	s, run := filled(t, wire(small)+rest)
	c := runs.Open(s, run)
	for n := range 1001 {
		ok := false
		if took := spent(func() { _, ok = c.Next() }); !ok || took > 20000 {
			t.Fatalf("item %d, %v: %d bytes", n, ok, took)
		}
	}
	for n := range 3 {
		ok := false
		if took := spent(func() { _, ok = c.Next() }); !ok || took > 3*api.MaxBody {
			t.Fatalf("great item %d, %v: %d bytes", n, ok, took)
		}
	}
	if took := spent(func() { runs.Open(s, run) }); took > 20000 {
		t.Errorf("Open: %d bytes", took)
	}
}

// P16.2: nor where what stands there is none.
func TestNextStrangeSmall(t *testing.T) {
	for what, b := range strange() {
		s, run := filled(t, b)
		c := runs.Open(s, run)
		if took := spent(func() { c.Next() }); took > 3*api.MaxBody/2 {
			t.Errorf("%s: %d bytes", what, took)
		}
	}
}
