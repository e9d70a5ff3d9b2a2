package heap_test

import (
	"fmt"
	"math"
	"math/rand"
	"slices"
	"strings"
	"testing"

	"bindle/api"
	"bindle/heap"
)

// P15.1: by Key, of one Key by Seq, of one Key and Seq by Run; whatever order they come in, and whatever Data they have.
func TestOrder(t *testing.T) {
	for _, c := range []struct {
		what        string
		first, next api.Entry
	}{
		{"Key", entry("a", 0, 0, ""), entry("b", 0, 0, "")},
		{"Key ahead of Seq", entry("a", 9, 0, ""), entry("b", 0, 0, "")},
		{"Key ahead of Run", entry("a", 0, 9, ""), entry("b", 0, 0, "")},
		{"Key ahead of Data", entry("a", 0, 0, "z"), entry("b", 0, 0, "a")},
		{"an empty Key", entry("", 9, 9, ""), entry("a", 0, 0, "")},
		{"a Key that begins another", entry("a", 9, 9, ""), entry("a\x00", 0, 0, "")},
		{"a point and a slash", entry("a.b", 9, 9, ""), entry("a/b", 0, 0, "")},
		{"letters by their bytes", entry("Z", 9, 9, ""), entry("a", 0, 0, "")},
		{"digits by their bytes", entry("10", 9, 9, ""), entry("9", 0, 0, "")},
		{"bytes without a sign", entry("\x7f", 9, 9, ""), entry("\x80", 0, 0, "")},
		{"bytes that are no text", entry("\xfe", 9, 9, ""), entry("\xff", 0, 0, "")},
		{"Seq", entry("k", 1, 0, ""), entry("k", 2, 0, "")},
		{"Seq ahead of Run", entry("k", 1, 9, ""), entry("k", 2, 0, "")},
		{"Seq ahead of Data", entry("k", 1, 0, "z"), entry("k", 2, 0, "a")},
		{"Seq as a number", entry("k", 9, 0, ""), entry("k", 10, 0, "")},
		{"Seq below 0", entry("k", -1, 9, ""), entry("k", 0, 0, "")},
		{"Seq at its ends", entry("k", math.MinInt, 9, ""), entry("k", math.MaxInt, 0, "")},
		{"Run", entry("k", 1, 0, ""), entry("k", 1, 1, "")},
		{"Run ahead of Data", entry("k", 1, 0, "z"), entry("k", 1, 1, "a")},
		{"Run as a number", entry("k", 1, 9, ""), entry("k", 1, 10, "")},
		{"Run below 0", entry("k", 1, -1, ""), entry("k", 1, 0, "")},
		{"Run at its ends", entry("k", 1, math.MinInt, ""), entry("k", 1, math.MaxInt, "")},
		{"Run of an empty Key", entry("", 0, 3, ""), entry("", 0, 4, "")},
		{"a Key that is too long", entry(strings.Repeat("k", 300), 9, 9, ""), entry(strings.Repeat("k", 301), 0, 0, "")},
	} {
		for _, list := range [][]api.Entry{{c.first, c.next}, {c.next, c.first}} {
			h := new(heap.Heap)
			for _, x := range list {
				h.Push(x)
			}
			for n, want := range []api.Entry{c.first, c.next} {
				if x, ok := h.Least(); !ok || told(x) != told(want) || h.Len() != 2-n {
					t.Errorf("%s: Least: %s, %v; Len %d", c.what, told(x), ok, h.Len())
				}
				if x, ok := h.Pop(); !ok || told(x) != told(want) || h.Len() != 1-n {
					t.Errorf("%s: Pop: %s, %v; Len %d", c.what, told(x), ok, h.Len())
				}
			}
		}
	}
}

// nothing expects a heap without entries, asked in any order.
func nothing(t *testing.T, what string, h *heap.Heap) {
	t.Helper()
	for range 3 {
		if n := h.Len(); n != 0 {
			t.Errorf("%s: Len %d", what, n)
		}
		if x, ok := h.Least(); ok || told(x) != told(api.Entry{}) {
			t.Errorf("%s: Least: %s, %v", what, told(x), ok)
		}
		if x, ok := h.Pop(); ok || told(x) != told(api.Entry{}) {
			t.Errorf("%s: Pop: %s, %v", what, told(x), ok)
		}
	}
}

// P15.1: a new(Heap) is empty, and so is one whose last entry is gone; it takes entries again.
func TestEmpty(t *testing.T) {
	h := new(heap.Heap)
	nothing(t, "new", h)
	for n := range 5 {
		for i := range n {
			h.Push(entry("k", i, 0, "d"))
		}
		for range n {
			h.Pop()
		}
		nothing(t, fmt.Sprintf("after %d", n), h)
	}
	var zero heap.Heap
	nothing(t, "a zero value", &zero)
	zero.Push(api.Entry{})
	if x, ok := zero.Pop(); !ok || told(x) != told(api.Entry{}) {
		t.Error("an entry of nothing is an entry, too:", told(x), ok)
	}
	nothing(t, "a zero value, again", &zero)
}

// P15.1: a nil *Heap has nothing, and a Push to it does nothing.
func TestNil(t *testing.T) {
	var h *heap.Heap
	nothing(t, "nil", h)
	h.Push(entry("a", 1, 2, "d"))
	h.Push(api.Entry{})
	nothing(t, "nil after Push", h)
}

// P15.1: Push answers nothing and only adds: heaps beside one another have each its own.
func TestApart(t *testing.T) {
	one, two := newPair(t), newPair(t)
	for i, key := range []string{"d", "b", "e", "a", "c"} {
		one.push(entry(key, 0, 0, "one"))
		if i%2 == 0 {
			two.push(entry(key, 0, 0, "two"))
		}
		one.state()
	}
	one.pop()
	two.state()
	two.empty()
	one.state()
	one.empty()
}

// permutations calls do with all orders of the list.
func permutations(list []api.Entry, at int, do func([]api.Entry)) {
	if at == len(list) {
		do(list)
		return
	}
	for i := at; i < len(list); i++ {
		list[at], list[i] = list[i], list[at]
		permutations(list, at+1, do)
		list[at], list[i] = list[i], list[at]
	}
}

// P15.1: the same entries in all orders, of which no two are alike in all: they come in one order.
func TestAllOrders(t *testing.T) {
	rising := []api.Entry{entry("a", 1, 5, "1"), entry("a", 2, 0, "2"), entry("a", 2, 3, "3"), entry("a/", 0, 0, "4"), entry("b", 0, 1, "5"), entry("b", 0, 2, "6"), entry("b", 7, 0, "7")}
	permutations(slices.Clone(rising), 0, func(list []api.Entry) {
		h := new(heap.Heap)
		for _, x := range list {
			h.Push(x)
		}
		if got := pops(h); got != "1 2 3 4 5 6 7" {
			t.Fatalf("%v: %s", list, got)
		}
	})
}

// P15.1: of entries that are alike in Key, Seq and Run any one comes, but each comes just once, with its own Data.
func TestAlike(t *testing.T) {
	for size := range 20 {
		p := newPair(t)
		for i := range size {
			p.push(entry("k", 3, 2, string(byte('a'+i))))
		}
		p.empty()
		for i := range size {
			p.push(entry("k", 3, 2, string(byte('a'+i/3))))
			p.push(entry("k", 3, i%2, "e"))
		}
		p.empty()
	}
}

// P15.1: what Least answers is what Pop takes, also where another one would do as well.
func TestLeastThenPop(t *testing.T) {
	pick := rand.New(rand.NewSource(151))
	h := new(heap.Heap)
	for i := range 500 {
		h.Push(drawn(pick, i))
	}
	for h.Len() > 0 {
		x, _ := h.Least()
		if y, ok := h.Pop(); !ok || told(x) != told(y) {
			t.Fatalf("Least %s, Pop %s, %v", told(x), told(y), ok)
		}
	}
}

// P15.1: all short series of calls.
func TestShortSeries(t *testing.T) {
	kinds := []api.Entry{entry("a", 0, 1, ""), entry("a", 0, 0, ""), entry("a", 1, 0, ""), entry("", 2, 2, "")}
	series := 1
	for range 6 {
		series *= len(kinds) + 1
	}
	for number := range series {
		p := newPair(t)
		for n := number; n > 0; n /= len(kinds) + 1 {
			if kind := n % (len(kinds) + 1); kind < len(kinds) {
				x := kinds[kind]
				x.Item.Data = []byte{byte('a' + len(p.what))}
				p.push(x)
			} else {
				p.pop()
			}
		}
		p.empty()
	}
}

// P15.1: long series of calls that are drawn: more Push, then more Pop, then to the end.
func TestLongSeries(t *testing.T) {
	pick := rand.New(rand.NewSource(152))
	for range 100 {
		p := newPair(t)
		for i := range 120 {
			if pick.Intn(120) > i {
				p.push(drawn(pick, i))
			} else {
				p.pop()
			}
		}
		p.empty()
	}
}

// P15.1: many entries, rising, falling, all alike but in Run, and drawn.
func TestMany(t *testing.T) {
	const many = 20000
	pick := rand.New(rand.NewSource(153))
	for what, number := range map[string]func(i int) int{
		"rising":  func(i int) int { return i },
		"falling": func(i int) int { return many - i },
		"alike":   func(int) int { return 7 },
		"drawn":   func(int) int { return pick.Intn(many / 3) },
	} {
		h := new(heap.Heap)
		for i := range many {
			h.Push(api.Entry{Item: api.Item{Key: "k", Seq: number(i)}, Run: many - i})
		}
		last := api.Entry{Item: api.Item{Key: "k", Seq: -1}}
		runs := map[int]bool{}
		for n := range many {
			if h.Len() != many-n {
				t.Fatalf("%s: Len %d after %d", what, h.Len(), n)
			}
			x, ok := h.Pop()
			if !ok || !modelFirst(last, x) {
				t.Fatalf("%s: %s, %v behind %s", what, told(x), ok, told(last))
			}
			last = x
			runs[x.Run] = true
		}
		if len(runs) != many {
			t.Errorf("%s: of %d runs", what, len(runs))
		}
		nothing(t, what, h)
	}
}

// P15.1: entries come as they went in, in all fields: also items that may not be, and great Data.
func TestWhole(t *testing.T) {
	for _, x := range []api.Entry{
		{},
		entry("", 0, 1, ""),
		entry("a\x00\xff", 1, -1, "\x00\xff"),
		entry(strings.Repeat("k", 200), math.MaxInt, math.MaxInt, strings.Repeat("d", api.MaxBody)),
		entry(strings.Repeat("k", 1000), math.MinInt, math.MinInt, strings.Repeat("d", api.MaxBody+1)),
		entry("\u00e9", -1, 0, "x"),
	} {
		p := newPair(t)
		p.push(x)
		p.push(x)
		p.empty()
	}
}

// R4: an entry that is handed in is neither changed, spare room included, nor kept.
func TestKeepsNothing(t *testing.T) {
	room := []byte("abcdef")
	h := new(heap.Heap)
	for i, key := range []string{"c", "a", "b"} {
		h.Push(api.Entry{Item: api.Item{Key: key, Data: room[i : i+2]}})
	}
	h.Least()
	if string(room) != "abcdef" {
		t.Errorf("changed: %q", room)
	}
	copy(room, "??????")
	if x, _ := h.Least(); string(x.Item.Data) != "bc" {
		t.Errorf("kept: %q", x.Item.Data)
	}
	if got := pops(h); got != "bc cd ab" || string(room) != "??????" {
		t.Errorf("kept: %s, %q", got, room)
	}
}

// R4: one entry that is pushed twice, and to two heaps, is each time another one.
func TestPushedTwice(t *testing.T) {
	x := entry("k", 1, 1, "abc")
	one, two := new(heap.Heap), new(heap.Heap)
	one.Push(x)
	one.Push(x)
	two.Push(x)
	spoil(one)
	if got := pops(one); got != "abc" {
		t.Error(got)
	}
	if got := pops(two); got != "abc" || string(x.Item.Data) != "abc" {
		t.Error(got, told(x))
	}
}

// spoil pops an entry, and writes over all memory that came with it.
func spoil(h *heap.Heap) {
	x, _ := h.Pop()
	whole := x.Item.Data[:cap(x.Item.Data)]
	for i := range whole {
		whole[i] = '!'
	}
}

// R4: what Least answers shares no memory with the heap, with what Pop answers, or with another Least.
func TestAnswersMemory(t *testing.T) {
	h := new(heap.Heap)
	for _, key := range []string{"a", "b", "c"} {
		h.Push(entry(key, 0, 0, key+key+key))
	}
	one, _ := h.Least()
	two, _ := h.Least()
	whole := one.Item.Data[:cap(one.Item.Data)]
	for i := range whole {
		whole[i] = '!'
	}
	if string(two.Item.Data) != "aaa" {
		t.Errorf("Least shares with Least: %q", two.Item.Data)
	}
	three, _ := h.Least()
	if string(three.Item.Data) != "aaa" {
		t.Errorf("Least shares with the heap: %q", three.Item.Data)
	}
	spoil(h)
	if string(two.Item.Data) != "aaa" || string(three.Item.Data) != "aaa" {
		t.Errorf("Pop shares with Least: %q, %q", two.Item.Data, three.Item.Data)
	}
	h.Push(entry("a", 0, 0, "new"))
	if got := pops(h); got != "new bbb ccc" {
		t.Errorf("Pop shares with the heap: %s", got)
	}
}

// R5: the same calls are answered the same again.
func TestAgain(t *testing.T) {
	answers := func() string {
		pick := rand.New(rand.NewSource(154))
		h := new(heap.Heap)
		all := ""
		for i := range 300 {
			if pick.Intn(3) > 0 {
				h.Push(drawn(pick, i))
			} else {
				x, ok := h.Pop()
				all += fmt.Sprint(told(x), ok)
			}
			x, ok := h.Least()
			all += fmt.Sprint(told(x), ok, h.Len())
		}
		return all + pops(h)
	}
	want := answers()
	for range 5 {
		if answers() != want {
			t.Fatal("another answer")
		}
	}
}
