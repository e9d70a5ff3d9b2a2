package store_test

import (
	"math"
	"slices"
	"strings"
	"testing"

	"bindle/api"
	"bindle/store"
)

// P14.2: bytes stand one behind the other, in the run that they were written to.
func TestAppend(t *testing.T) {
	s := store.New(100, nil)
	s.Create()
	s.Create()
	for i, c := range []struct {
		run      int
		b        string
		one, two string
	}{
		{0, "abc", "abc", ""},
		{1, "12", "abc", "12"},
		{0, "", "abc", "12"},
		{0, "d", "abcd", "12"},
		{1, "3\x00\xff", "abcd", "123\x00\xff"},
		{1, "", "abcd", "123\x00\xff"},
		{0, "abcd", "abcdabcd", "123\x00\xff"},
		{1, "4", "abcdabcd", "123\x00\xff4"},
	} {
		if e := s.Append(c.run, []byte(c.b)); e != api.OK {
			t.Errorf("Append(%d, %q): %d", c.run, c.b, e)
		}
		has(t, s, 0, c.one)
		has(t, s, 1, c.two)
		counts(t, s, len(c.one)+len(c.two), len(c.one)+len(c.two), i+1)
	}
}

// P14.2: an Append to no run is no write, whatever fails and however little room there is.
func TestAppendNone(t *testing.T) {
	s := store.New(0, []int{0, 1})
	for _, run := range []int{0, 1, -1, math.MaxInt, math.MinInt} {
		for _, b := range []string{"", "a"} {
			if e := s.Append(run, []byte(b)); e != api.ErrNone {
				t.Errorf("Append(%d, %q): %d", run, b, e)
			}
		}
	}
	counts(t, s, 0, 0, 0)
	s.Create()
	for _, want := range []api.Errno{api.ErrIO, api.ErrIO, api.OK} {
		if e := s.Append(1, nil); e != api.ErrNone {
			t.Error(e)
		}
		if e := s.Append(0, nil); e != want {
			t.Errorf("%d, not %d", e, want)
		}
	}
	s.Drop(0)
	if e := s.Append(0, nil); e != api.ErrNone {
		t.Error(e)
	}
	counts(t, s, 0, 0, 3)
}

// P14.2: the writes in fails fail, in whatever order they stand there and however often, and no other one.
func TestFails(t *testing.T) {
	for _, fails := range [][]int{
		nil, {}, {0}, {1}, {9}, {10}, {0, 1, 2}, {2, 1, 0}, {3, 3, 3}, {5, 0, 5, 0}, {-1}, {-1, 4, math.MinInt, math.MaxInt},
		{0, 1, 2, 3, 4, 5, 6, 7, 8, 9}, {9, 7, 5, 3, 1}, {1 << 32, 1 << 16, 256},
	} {
		s := store.New(100, fails)
		s.Create()
		s.Create()
		all := ""
		for write := range 10 {
			b := string(byte('0' + write))
			e := s.Append(write%2, []byte(b))
			if slices.Contains(fails, write) {
				if e != api.ErrIO {
					t.Errorf("fails %v: write %d: %d", fails, write, e)
				}
			} else {
				if e != api.OK {
					t.Errorf("fails %v: write %d: %d", fails, write, e)
				}
				all += b
			}
			counts(t, s, len(all), len(all), write+1)
		}
		one, two := "", ""
		for i := range all {
			if all[i]%2 == 0 {
				one += all[i : i+1]
			} else {
				two += all[i : i+1]
			}
		}
		has(t, s, 0, one)
		has(t, s, 1, two)
	}
}

// P14.2: a write fails also of no bytes, and ahead of ErrFull; one that finds no room counts as a write, too.
func TestFailsFirst(t *testing.T) {
	s := store.New(2, []int{0, 3})
	s.Create()
	for i, c := range []struct {
		b    string
		want api.Errno
	}{
		{"", api.ErrIO}, {"abc", api.ErrFull}, {"a", api.OK}, {"bc", api.ErrIO}, {"bc", api.ErrFull}, {"b", api.OK}, {"c", api.ErrFull}, {"", api.OK},
	} {
		if e := s.Append(0, []byte(c.b)); e != c.want {
			t.Errorf("write %d: %d, not %d", i, e, c.want)
		}
		if s.Writes() != i+1 {
			t.Errorf("Writes %d, not %d", s.Writes(), i+1)
		}
	}
	has(t, s, 0, "ab")
	counts(t, s, 2, 2, 8)
}

// P14.2: room is of all runs together, and a write that does not fit lays nothing, not even what would.
func TestAppendFull(t *testing.T) {
	for room := range 12 {
		for a := range 7 {
			for b := range 7 {
				p := newPair(t, room)
				p.create()
				p.create()
				p.append(0, strings.Repeat("a", a))
				p.append(1, strings.Repeat("b", b))
				p.append(0, "c")
				p.append(1, "")
				p.drop(0)
				p.append(1, strings.Repeat("d", a))
				p.append(1, "e")
			}
		}
	}
}

// P14.2: Peak stays where it was when bytes go, and rises only above it.
func TestPeak(t *testing.T) {
	s := made(t, 100, "abcde", "fgh")
	counts(t, s, 8, 8, 2)
	s.Drop(0)
	counts(t, s, 3, 8, 2)
	s.Append(1, []byte("1234"))
	counts(t, s, 7, 8, 3)
	s.Append(1, []byte("5"))
	counts(t, s, 8, 8, 4)
	s.Append(1, []byte("6"))
	counts(t, s, 9, 9, 5)
	s.Drop(1)
	counts(t, s, 0, 9, 5)
	s.Create()
	s.Append(2, []byte("x"))
	counts(t, s, 1, 9, 6)
	s.Append(2, make([]byte, 100))
	counts(t, s, 1, 9, 7)
	s.Append(2, make([]byte, 99))
	counts(t, s, 100, 100, 8)
}

// P14.2: Used, Peak, Writes and Size change nothing by being asked.
func TestAsked(t *testing.T) {
	s := made(t, 100, "abc", "d")
	s.Drop(1)
	for range 5 {
		counts(t, s, 3, 4, 2)
		has(t, s, 0, "abc")
		lacks(t, s, 1)
	}
	if run, e := s.Create(); run != 2 || e != api.OK {
		t.Error(run, e)
	}
}

// P14.2: many writes, and long ones.
func TestAppendMany(t *testing.T) {
	const writes = 20000
	s := store.New(math.MaxInt, []int{writes})
	s.Create()
	s.Create()
	var all [2]strings.Builder
	for i := range writes {
		b := strings.Repeat(string(byte(i)), i%5)
		all[i%2].WriteString(b)
		if e := s.Append(i%2, []byte(b)); e != api.OK {
			t.Fatal(i, e)
		}
	}
	if e := s.Append(0, []byte("x")); e != api.ErrIO {
		t.Error(e)
	}
	long := strings.Repeat("long", 1<<19)
	s.Append(0, []byte(long))
	has(t, s, 0, all[0].String()+long)
	has(t, s, 1, all[1].String())
	n := all[0].Len() + all[1].Len() + len(long)
	counts(t, s, n, n, writes+2)
}

// R4: what is handed in is neither changed, spare room included, nor kept.
func TestKeepsNothing(t *testing.T) {
	fails, room := []int{1, 5, 7}, []byte("abcdefgh")
	s := store.New(100, fails[:1])
	s.Create()
	s.Create()
	s.Append(0, room[:3])
	s.Append(0, room[:3])
	s.Append(1, room[2:4])
	s.Append(0, room[:1])
	s.Read(0, 1, 1)
	s.Drop(1)
	if string(room) != "abcdefgh" || !slices.Equal(fails, []int{1, 5, 7}) {
		t.Errorf("changed: %q, %v", room, fails)
	}
	s = store.New(100, fails[:1])
	s.Create()
	fails[0] = 0
	if e := s.Append(0, room[:3]); e != api.OK {
		t.Error("fails are kept:", e)
	}
	copy(room, "????????")
	has(t, s, 0, "abc")
	if e := s.Append(0, room); e != api.ErrIO {
		t.Error("fails are kept:", e)
	}
	has(t, s, 0, "abc")
}

// R4: one run's bytes are not another one's, also where both were written from one list.
func TestRunsApart(t *testing.T) {
	room := make([]byte, 4, 100)
	copy(room, "abcd")
	s := store.New(1000, nil)
	for range 3 {
		s.Create()
	}
	for range 5 {
		for run := range 3 {
			s.Append(run, room)
			s.Append(run, []byte{byte('0' + run)})
		}
	}
	for run := range 3 {
		has(t, s, run, strings.Repeat("abcd"+string(byte('0'+run)), 5))
	}
	if string(room[:6]) != "abcd\x00\x00" {
		t.Errorf("spare room: %q", room[:6])
	}
}
