package runs_test

import (
	"fmt"
	"math"
	"math/rand"
	"slices"
	"strings"
	"testing"

	"bindle/api"
	"bindle/num"
	"bindle/runs"
	"bindle/store"
)

// P16.1: New refuses a nil store, and a budget below 1.
func TestNewRefuses(t *testing.T) {
	s := store.New(100, nil)
	for _, c := range []struct {
		s      *store.Store
		budget int
	}{{nil, 1}, {nil, 0}, {nil, math.MaxInt}, {s, 0}, {s, -1}, {s, math.MinInt}} {
		if f, e := runs.New(c.s, c.budget); f != nil || e != api.ErrArg {
			t.Errorf("New(%v, %d): %v, %d", c.s, c.budget, f, e)
		}
	}
}

// P16.1: New holds nothing, and writes nothing, whatever budget and room there are.
func TestNew(t *testing.T) {
	for _, budget := range []int{1, 2, 1000, math.MaxInt} {
		for _, room := range []int{-1, 0, 100} {
			p := newPair(t, budget, room)
			p.close()
			p.add()
			p.close()
			p.next()
		}
	}
}

// P16.1: the chapter's example.
func TestExample(t *testing.T) {
	p := newPair(t, 2, 100)
	p.add(item("c", 0, ""), item("a", 0, ""), item("b", 0, ""))
	p.close()
	list, e := p.got.Close()
	if !slices.Equal(list, []int{0, 1}) || e != api.OK || p.got.Held() != 0 {
		t.Fatal(list, e, p.got.Held())
	}
	gives(t, "run 0", runs.Open(p.store, 0), item("a", 0, ""), item("c", 0, ""))
	gives(t, "run 1", runs.Open(p.store, 1), item("b", 0, ""))
	p.next()
}

// P16.1: a run is written just when budget are held, also by one Add of many items, or by many of one.
func TestBudget(t *testing.T) {
	var list []api.Item
	for i := range 12 {
		list = append(list, item(string(byte('z'-i)), i, strings.Repeat("d", i)))
	}
	for budget := 1; budget <= 14; budget++ {
		for size := range len(list) + 1 {
			one, many := newPair(t, budget, 1000), newPair(t, budget, 1000)
			one.add(list[:size]...)
			for _, x := range list[:size] {
				many.add(x)
			}
			if n := one.got.Held(); n != size%budget {
				t.Errorf("budget %d, %d items: Held %d", budget, size, n)
			}
			one.close()
			many.close()
			one.next()
			many.next()
		}
	}
}

// P16.1: in a run the items stand by Key, of one Key by Seq, and those that are alike as they came.
func TestOrder(t *testing.T) {
	rising := []api.Item{
		item("", 9, "1"), item("A", 0, "2"), item("a", 1, "z"), item("a", 1, "a"), item("a", 1, "m"), item("a", 2, ""), item("a", 10, ""),
		item("a\x00", 0, ""), item("a.b", 0, ""), item("a/b", 0, ""), item("b", 0, ""), item("\x7f", 0, ""), item("\x80", 0, ""), item("\xff", num.Max, ""),
	}
	pick := rand.New(rand.NewSource(161))
	for range 200 {
		list := slices.Clone(rising)
		pick.Shuffle(len(list), func(i, j int) { list[i], list[j] = list[j], list[i] })
		p := newPair(t, len(list), 1000)
		p.add(list...)
		p.close()
	}
	p := newPair(t, len(rising), 1000)
	p.add(rising[7:]...)
	p.add(rising[:7]...)
	if got := bytesOf(p.store, 0); got != wires(rising...) {
		t.Errorf("%q", got)
	}
}

// wrongs are items that may not be.
func wrongs() []api.Item {
	return []api.Item{
		item("k", -1, "d"), item("k", math.MinInt, ""), item("k", num.Max+1, ""), item("k", math.MaxInt, ""),
		item(strings.Repeat("k", api.MaxPath+1), 0, ""), item(strings.Repeat("k", 1000), 0, ""),
		item("k", 0, strings.Repeat("d", api.MaxBody+1)),
	}
}

// P16.1: an item that may not be is ErrArg: those ahead of it are held, or written, those behind it are not looked at; and then all goes on.
func TestWrongItem(t *testing.T) {
	for _, x := range wrongs() {
		for ahead := range 6 {
			p := newPair(t, 3, 1000)
			var list []api.Item
			for i := range ahead {
				list = append(list, item("k", i, "ahead"))
			}
			list = append(list, x, item("k", 7, "behind"), x)
			for range 2 {
				if e := p.got.Add(list...); e != api.ErrArg {
					t.Errorf("%s behind %d: %d", told(x), ahead, e)
				}
				p.want.add(list)
				p.state()
			}
			p.add(item("k", 8, ""), item("a", 9, ""))
			p.close()
			p.next()
		}
	}
}

// P16.1: items at the ends of what may be.
func TestEdgeItem(t *testing.T) {
	for _, x := range []api.Item{{}, {Data: []byte{}}, item(strings.Repeat("k", api.MaxPath), num.Max, strings.Repeat("d", api.MaxBody)), item("\x00\xff", 0, "\x00\xff")} {
		p := newPair(t, 2, 1<<22)
		p.add(x)
		p.add(x)
		p.add(x)
		p.close()
		gives(t, told(x), runs.Open(p.store, 0), x, x)
		gives(t, told(x), runs.Open(p.store, 1), x)
	}
}

// P16.1: behind an error of writing each call answers it, and writes no more; what was to be written is still held.
func sticky(t *testing.T, what string, f *runs.Former, s *store.Store, want api.Errno, held int) {
	t.Helper()
	writes, used := s.Writes(), s.Used()
	for range 2 {
		for _, list := range [][]api.Item{nil, {item("a", 0, "")}, wrongs()[:1], {item("a", 0, ""), item("b", 0, "")}} {
			if e := f.Add(list...); e != want {
				t.Errorf("%s: Add(%v): %d, not %d", what, list, e, want)
			}
		}
		if list, e := f.Close(); len(list) != 0 || e != want {
			t.Errorf("%s: Close: %v, %d, not %d", what, list, e, want)
		}
		if n := f.Held(); n != held {
			t.Errorf("%s: Held %d, not %d", what, n, held)
		}
	}
	if s.Writes() != writes || s.Used() != used {
		t.Errorf("%s: written: Writes %d, Used %d, not %d, %d", what, s.Writes(), s.Used(), writes, used)
	}
}

// P16.1: each write fails once, at each budget: in Add, or in Close.
func TestFails(t *testing.T) {
	list := []api.Item{item("e", 0, "1"), item("d", 0, "22"), item("c", 0, "333"), item("b", 0, "4444"), item("a", 0, "55555")}
	for budget := 1; budget <= 6; budget++ {
		for number := range 7 {
			p := newPair(t, budget, 1000, number)
			p.add(list...)
			p.close()
			if number < len(list) {
				run := number / budget
				held := min(budget, len(list)-run*budget)
				sticky(t, p.what, p.got, p.store, api.ErrIO, held)
				if n := p.store.Writes(); n != number+1 {
					t.Errorf("%s: Writes %d", p.what, n)
				}
			}
			p.add(item("z", 0, ""))
			p.close()
		}
	}
}

// P16.1: all sizes of room: ErrFull at the first item that has none.
func TestFull(t *testing.T) {
	list := []api.Item{item("c", 0, "333"), item("b", 0, "22"), item("a", 0, "1"), item("d", 0, "")}
	for budget := 1; budget <= 5; budget++ {
		for room := range len(wires(list...)) + 2 {
			p := newPair(t, budget, room)
			for _, x := range list {
				p.add(x)
			}
			p.close()
			if room < len(wires(list...)) {
				sticky(t, p.what, p.got, p.store, api.ErrFull, p.got.Held())
			}
			p.add()
			p.close()
		}
	}
}

// P16.1: of several errors the first one: which it is hangs on the write that comes first.
func TestFirstError(t *testing.T) {
	p := newPair(t, 2, 20, 1)
	p.add(item("a", 0, ""), item("b", 0, ""), item("c", -1, ""))
	sticky(t, "ErrIO ahead of ErrFull and ErrArg", p.got, p.store, api.ErrIO, 2)
	p = newPair(t, 2, 20, 2)
	p.add(item("a", 0, ""), item("b", 0, ""), item("c", 0, ""))
	sticky(t, "ErrFull ahead of ErrIO", p.got, p.store, api.ErrFull, 2)
	p = newPair(t, 2, 20, 0)
	p.add(item("a", 0, ""), item("c", -1, ""), item("b", 0, ""))
	if n := p.got.Held(); n != 1 {
		t.Error("ErrArg ahead of ErrIO:", n)
	}
	p.close()
	sticky(t, "ErrIO behind ErrArg", p.got, p.store, api.ErrIO, 1)
}

// P16.1: where no run can be created it is ErrFull, and nothing is written.
func TestNoMoreRuns(t *testing.T) {
	for _, closes := range []bool{false, true} {
		s := store.New(1000, nil)
		for range api.MaxRuns - 1 {
			s.Create()
		}
		f, _ := runs.New(s, 2)
		if e := f.Add(item("c", 0, ""), item("b", 0, ""), item("a", 0, "")); e != api.OK || f.Held() != 1 {
			t.Fatal(e, f.Held())
		}
		if closes {
			if list, e := f.Close(); len(list) != 0 || e != api.ErrFull {
				t.Error(list, e)
			}
			sticky(t, "Close", f, s, api.ErrFull, 1)
		} else {
			if e := f.Add(item("d", 0, ""), item("e", -1, "")); e != api.ErrFull {
				t.Error(e)
			}
			sticky(t, "Add", f, s, api.ErrFull, 2)
		}
		if s.Writes() != 2 || s.Used() != 2*17 || bytesOf(s, api.MaxRuns-1) != wires(item("b", 0, ""), item("c", 0, "")) {
			t.Error(s.Writes(), s.Used())
		}
	}
}

// P16.1: the numbers are those of this Former's runs alone, as they were written, whatever else is done with the store.
func TestNumbers(t *testing.T) {
	s := store.New(1000, nil)
	s.Create()
	one, _ := runs.New(s, 1)
	two, _ := runs.New(s, 2)
	one.Add(item("a", 0, ""))
	two.Add(item("b", 0, ""))
	s.Create()
	two.Add(item("c", 0, ""))
	one.Add(item("d", 0, ""), item("e", 0, ""))
	two.Add(item("f", 0, ""))
	s.Drop(1)
	if list, e := one.Close(); !slices.Equal(list, []int{1, 4, 5}) || e != api.OK {
		t.Error(list, e)
	}
	if list, e := two.Close(); !slices.Equal(list, []int{3, 6}) || e != api.OK {
		t.Error(list, e)
	}
	gives(t, "run 3", runs.Open(s, 3), item("b", 0, ""), item("c", 0, ""))
	gives(t, "run 6", runs.Open(s, 6), item("f", 0, ""))
}

// P16.1: Close writes what is held just once, and tells all runs, also again, and behind another Add.
func TestCloseAgain(t *testing.T) {
	p := newPair(t, 2, 1000)
	p.add(item("b", 0, ""), item("a", 0, ""), item("c", 0, ""))
	for i := range 4 {
		p.close()
		p.close()
		if list, e := p.got.Close(); len(list) != 2+i || e != api.OK {
			t.Error(list, e)
		}
		p.add(item("d", i, ""))
	}
	p.close()
	p.next()
}

// P16.1: a nil *Former; and what New did not make is no object, but does not panic.
func TestNilFormer(t *testing.T) {
	var f *runs.Former
	for _, list := range [][]api.Item{nil, {{}}, wrongs()} {
		if e := f.Add(list...); e != api.ErrArg {
			t.Error(e)
		}
		if list, e := f.Close(); len(list) != 0 || e != api.ErrArg {
			t.Error(list, e)
		}
		if n := f.Held(); n != 0 {
			t.Error(n)
		}
	}
	for range 3 {
		zero := new(runs.Former)
		zero.Close()
		zero.Add(wrongs()...)
		zero.Add(item("a", 0, ""), item("b", 0, ""))
		zero.Held()
		zero.Close()
		zero.Add()
	}
}

// R4: what is handed in is not changed, spare room included, and not kept.
func TestKeepsNothing(t *testing.T) {
	room := []byte("abcdef")
	list := []api.Item{{Key: "c", Data: room[0:2]}, {Key: "b", Data: room[2:4]}, {Key: "a", Data: room[4:5]}, {Key: "spare"}}
	s := store.New(1000, nil)
	f, _ := runs.New(s, 3)
	f.Add(list[:2]...)
	if string(room) != "abcdef" || list[0].Key != "c" || list[1].Key != "b" || list[2].Key != "a" {
		t.Errorf("changed: %q, %v", room, list)
	}
	copy(room, "????")
	list[0], list[1] = item("x", 0, "x"), item("y", 0, "y")
	f.Add(list[2:3]...)
	if string(room) != "????ef" || list[2].Key != "a" || list[3].Key != "spare" {
		t.Errorf("changed: %q, %v", room, list)
	}
	gives(t, "kept", runs.Open(s, 0), item("a", 0, "e"), item("b", 0, "cd"), item("c", 0, "ab"))
}

// R4: a list that is handed in whole, and sorted in the run, stays as it was.
func TestListStays(t *testing.T) {
	list := []api.Item{item("c", 0, "1"), item("a", 0, "2"), item("b", 0, "3"), item("0", 0, "4")}
	for budget := 1; budget < 6; budget++ {
		f, _ := runs.New(store.New(1000, []int{2 + budget}), budget)
		f.Add(list[:3]...)
		f.Close()
		if got := fmt.Sprint(list); got != fmt.Sprint([]api.Item{item("c", 0, "1"), item("a", 0, "2"), item("b", 0, "3"), item("0", 0, "4")}) {
			t.Errorf("budget %d: %s", budget, got)
		}
	}
}

// R4: the numbers that Close answers are new memory each time.
func TestCloseMemory(t *testing.T) {
	f, _ := runs.New(store.New(1000, nil), 1)
	f.Add(make([]api.Item, 5)...)
	one, _ := f.Close()
	two, _ := f.Close()
	whole := one[:cap(one)]
	for i := range whole {
		whole[i] = -7
	}
	f.Add(api.Item{})
	three, _ := f.Close()
	_ = append(three[:0], -8)
	four, _ := f.Close()
	if !slices.Equal(two, []int{0, 1, 2, 3, 4}) || !slices.Equal(four, []int{0, 1, 2, 3, 4, 5}) {
		t.Error(two, four)
	}
}

// P16.1: all short series of calls, with little room, and with each write failing once.
func TestShortSeries(t *testing.T) {
	calls := []func(p *pair){
		func(p *pair) { p.add(item("b", 1, "")) },
		func(p *pair) { p.add(item("a", 0, "x"), item("b", 0, "")) },
		func(p *pair) { p.add(item("c", 0, ""), item("c", -1, ""), item("a", 0, "")) },
		func(p *pair) { p.close() },
	}
	series := 1
	for range 5 {
		series *= len(calls) + 1
	}
	for budget := 1; budget < 5; budget++ {
		for _, room := range []int{0, 40, 1000} {
			for fails := -1; fails < 6; fails++ {
				for number := range series {
					p := newPair(t, budget, room, fails)
					for n := number; n > 0; n /= len(calls) + 1 {
						if call := n % (len(calls) + 1); call < len(calls) {
							calls[call](p)
						} else {
							p.add()
						}
					}
				}
			}
		}
	}
}

// P16.1: long series of calls that are drawn.
func TestLongSeries(t *testing.T) {
	pick := rand.New(rand.NewSource(162))
	for range 500 {
		var fails []int
		if pick.Intn(2) == 0 {
			fails = append(fails, pick.Intn(100))
		}
		p := newPair(t, 1+pick.Intn(9), 500+pick.Intn(4000), fails...)
		for i := range 40 {
			if pick.Intn(10) == 0 {
				p.close()
				continue
			}
			var list []api.Item
			for j := range pick.Intn(6) {
				list = append(list, drawn(pick, 10*i+j))
			}
			p.add(list...)
		}
		p.close()
		p.next()
	}
}

// R5: the same calls are answered the same again.
func TestAgain(t *testing.T) {
	answers := func() string {
		pick := rand.New(rand.NewSource(163))
		s := store.New(5000, []int{130})
		f, _ := runs.New(s, 7)
		all := ""
		for i := range 200 {
			all += fmt.Sprint(f.Add(drawn(pick, i), drawn(pick, i)), f.Held())
			if i%20 == 0 {
				all += fmt.Sprint(f.Close())
			}
		}
		for run := range 60 {
			all += bytesOf(s, run) + ";"
		}
		return all
	}
	want := answers()
	for range 5 {
		if answers() != want {
			t.Fatal("another answer")
		}
	}
}
