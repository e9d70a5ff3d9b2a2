package rec_test

import (
	"bytes"
	"math"
	"math/rand"
	"slices"
	"strings"
	"testing"

	"bindle/api"
	"bindle/num"
	"bindle/rec"
)

// P13.2: by Key first, byte by byte (chapter 5), and by Seq only where Keys are the same; Data counts for nothing.
func TestLess(t *testing.T) {
	for _, c := range []struct {
		a, b api.Item
		want bool
	}{
		{item("a", 0, ""), item("b", 0, ""), true},
		{item("b", 0, ""), item("a", 0, ""), false},
		{item("a", 9, "z"), item("b", 0, "a"), true},
		{item("b", 0, "a"), item("a", 9, "z"), false},
		{item("a", 1, "z"), item("a", 2, "a"), true},
		{item("a", 2, "a"), item("a", 1, "z"), false},
		{item("a", 1, "a"), item("a", 1, "b"), false},
		{item("a", 1, "b"), item("a", 1, "a"), false},
		{item("", 0, ""), item("", 0, ""), false},
		{item("", 5, ""), item("a", 0, ""), true},
		{item("a", 5, ""), item("aa", 0, ""), true},
		{item("aa", 0, ""), item("a", 5, ""), false},
		{item("a.b", 5, ""), item("a/b", 0, ""), true},
		{item("Z", 5, ""), item("a", 0, ""), true},
		{item("10", 5, ""), item("9", 0, ""), true},
		{item("z", 5, ""), item("\u00e9", 0, ""), true},
		{item("\x7f", 5, ""), item("\x80", 0, ""), true},
		{item("\xfe", 5, ""), item("\xff", 0, ""), true},
	} {
		if rec.Less(c.a, c.b) != c.want {
			t.Errorf("Less of %s and %s: not %v", told(c.a), told(c.b), c.want)
		}
	}
}

// P13.2: Less of all pairs of items at the edges, may they be or not.
func TestLessPairs(t *testing.T) {
	var list []api.Item
	for _, key := range someKeys() {
		for _, seq := range []int{0, 1, 2, num.Max, num.Max + 1, math.MaxInt, -1, math.MinInt} {
			for _, data := range []string{"", "x"} {
				list = append(list, item(key, seq, data))
			}
		}
	}
	for _, a := range list {
		for _, b := range list {
			if rec.Less(a, b) != modelLess(a, b) {
				t.Fatalf("Less of %s and %s: not %v", told(a), told(b), modelLess(a, b))
			}
		}
	}
}

// sorted expects Sorted of the list to answer as the model does.
func sorted(t *testing.T, list []api.Item) {
	t.Helper()
	if got, want := rec.Sorted(list), modelSorted(list); !sameList(got, want) {
		t.Errorf("Sorted of %.400s: %.400s, not %.400s", toldList(list), toldList(got), toldList(want))
	}
}

// P13.2: nothing, one, a few.
func TestSorted(t *testing.T) {
	if len(rec.Sorted(nil)) > 0 || len(rec.Sorted([]api.Item{})) > 0 {
		t.Error("nothing")
	}
	got := rec.Sorted([]api.Item{item("b", 1, "1"), item("a", 2, "2"), item("", 9, "3"), item("a", 1, "4"), item("a", 2, "5"), item("b", 1, "6"), {}})
	want := []api.Item{{}, item("", 9, "3"), item("a", 1, "4"), item("a", 2, "2"), item("a", 2, "5"), item("b", 1, "1"), item("b", 1, "6")}
	if !sameList(got, want) {
		t.Error(toldList(got))
	}
	got = rec.Sorted([]api.Item{item("k", 1, "z"), item("k", 1, "y"), item("k", 1, "x"), item("k", 1, "y")})
	if !sameList(got, []api.Item{item("k", 1, "z"), item("k", 1, "y"), item("k", 1, "x"), item("k", 1, "y")}) {
		t.Error("as good:", toldList(got))
	}
	// Items that may not be are sorted as all others are.
	got = rec.Sorted([]api.Item{item(strings.Repeat("k", 300), 0, "1"), item("k", math.MaxInt, "2"), item("k", math.MinInt, "3"), item("k", -1, "4"), item("k", 0, "5")})
	if string(got[0].Data)+string(got[1].Data)+string(got[2].Data)+string(got[3].Data)+string(got[4].Data) != "34521" {
		t.Error("that may not be:", toldList(got))
	}
}

// P13.2: all lists of up to six items out of four, each with its place as Data.
func TestSortedAll(t *testing.T) {
	kinds := []api.Item{{Key: "a"}, {Key: "a", Seq: 1}, {Key: "a/"}, {Seq: 2}}
	for size := range 7 {
		count := 1
		for range size {
			count *= len(kinds)
		}
		for n := range count {
			var list []api.Item
			for i := range size {
				x := kinds[n%len(kinds)]
				x.Data = []byte{byte('1' + i)}
				list = append(list, x)
				n /= len(kinds)
			}
			sorted(t, list)
		}
	}
}

// P13.2: long lists, of few keys (many as good), ahead sorted, backward, and all as good.
func TestSortedLong(t *testing.T) {
	pick := rand.New(rand.NewSource(134))
	for size := range 60 {
		for range 20 {
			list := make([]api.Item, size)
			for i := range list {
				list[i] = drawn(pick)
			}
			sorted(t, list)
		}
	}
	for _, size := range []int{500, 2000} {
		list := make([]api.Item, size)
		alike := make([]api.Item, size)
		for i := range list {
			list[i] = drawn(pick)
			list[i].Data = []byte(strings.Repeat("d", i%7) + string(rune('a'+i%26)))
			alike[i] = api.Item{Key: "k", Seq: 3, Data: []byte{byte(i >> 8), byte(i)}}
		}
		sorted(t, list)
		sorted(t, alike)
		rising := modelSorted(list)
		sorted(t, rising)
		slices.Reverse(rising)
		sorted(t, rising)
	}
}

// P13.2: the order hangs neither on Data nor on where the memory of an item is.
func TestSortedAgain(t *testing.T) {
	pick := rand.New(rand.NewSource(135))
	list := make([]api.Item, 300)
	for i := range list {
		list[i] = drawn(pick)
	}
	first := rec.Sorted(list)
	for range 5 {
		if !sameList(rec.Sorted(list), first) {
			t.Fatal("another answer")
		}
	}
	if !sameList(rec.Sorted(first), first) {
		t.Error("sorted once more, it is another list")
	}
}

// R4: Sorted changes nothing that is handed in, spare room included, and each Data it answers is memory of its own.
func TestSortedMemory(t *testing.T) {
	data := []byte("abcdef")
	room := []api.Item{{Key: "b", Data: data[:3]}, {Key: "a", Data: data[:3]}, {Key: "spare", Data: data}}
	one := rec.Sorted(room[:2])
	two := rec.Sorted(room[:2])
	if room[0].Key != "b" || room[1].Key != "a" || room[2].Key != "spare" || string(data) != "abcdef" {
		t.Error("changed:", toldList(room))
	}
	whole := one[0].Data[:cap(one[0].Data)]
	for i := range whole {
		whole[i] = '!'
	}
	if string(data) != "abcdef" || !bytes.Equal(one[1].Data, []byte("abc")) || !sameList(two, []api.Item{item("a", 0, "abc"), item("b", 0, "abc")}) {
		t.Error("shared:", toldList(room), toldList(one), toldList(two))
	}
	clear(one[:cap(one)])
	clear(data)
	if room[0].Key != "b" || !sameList(two, []api.Item{item("a", 0, "abc"), item("b", 0, "abc")}) {
		t.Error("kept:", toldList(room), toldList(two))
	}
	single := []api.Item{{Key: "k", Data: []byte("d")}}
	rec.Sorted(single)[0].Data[0] = '!'
	if string(single[0].Data) != "d" {
		t.Error("shared of one")
	}
}
