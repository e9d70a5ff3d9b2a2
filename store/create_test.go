package store_test

import (
	"math"
	"strings"
	"testing"

	"bindle/api"
	"bindle/store"
)

// P14.1: a new store has no runs, whatever room and fails are.
func TestNew(t *testing.T) {
	for _, room := range []int{0, 1, 10, -1, math.MaxInt, math.MinInt} {
		for _, fails := range [][]int{nil, {}, {0}, {-1, 5, 5}} {
			s := store.New(room, fails)
			counts(t, s, 0, 0, 0)
			for _, run := range []int{0, 1, -1, math.MaxInt, math.MinInt} {
				lacks(t, s, run)
			}
			counts(t, s, 0, 0, 0)
		}
	}
}

// P14.1: room is the number of bytes that may be there; below 0 it is 0.
func TestRoom(t *testing.T) {
	for _, c := range []struct{ room, may int }{
		{0, 0}, {1, 1}, {2, 2}, {3, 3}, {100, 100}, {100000, 100000}, {-1, 0}, {-2, 0}, {-100, 0}, {math.MinInt, 0}, {math.MinInt + 1, 0},
	} {
		s := store.New(c.room, nil)
		s.Create()
		if e := s.Append(0, make([]byte, c.may+1)); e != api.ErrFull {
			t.Errorf("room %d: Append of %d bytes: %d", c.room, c.may+1, e)
		}
		if e := s.Append(0, make([]byte, c.may)); e != api.OK {
			t.Errorf("room %d: Append of %d bytes: %d", c.room, c.may, e)
		}
		if e := s.Append(0, []byte("x")); e != api.ErrFull {
			t.Errorf("room %d: one byte too many: %d", c.room, e)
		}
		if e := s.Append(0, nil); e != api.OK {
			t.Errorf("room %d: Append of none to a full store: %d", c.room, e)
		}
		counts(t, s, c.may, c.may, 4)
	}
	for _, room := range []int{math.MaxInt, math.MaxInt - 1, 1 << 62} {
		s := made(t, room, "abc", strings.Repeat("d", 100000), "")
		counts(t, s, 100003, 100003, 3)
	}
}

// P14.1: the chapter's example.
func TestExample(t *testing.T) {
	s := store.New(3, nil)
	if run, e := s.Create(); run != 0 || e != api.OK {
		t.Error(run, e)
	}
	if e := s.Append(0, []byte("abcd")); e != api.ErrFull {
		t.Error(e)
	}
	counts(t, s, 0, 0, 1)
}

// P14.1: runs are without bytes at first, and are numbered one by one.
func TestCreate(t *testing.T) {
	s := store.New(0, []int{0})
	for want := range 1000 {
		lacks(t, s, want)
		if run, e := s.Create(); run != want || e != api.OK {
			t.Fatalf("Create: %d, %d, not %d", run, e, want)
		}
		has(t, s, want, "")
	}
	counts(t, s, 0, 0, 0)
	for run := range 1000 {
		has(t, s, run, "")
	}
}

// P14.1: a number is not given a second time, whatever was taken away.
func TestCreateAfterDrop(t *testing.T) {
	s := made(t, 100, "a", "b", "c")
	s.Drop(2)
	s.Drop(0)
	for want := 3; want < 10; want++ {
		run, e := s.Create()
		if run != want || e != api.OK {
			t.Fatalf("Create: %d, %d, not %d", run, e, want)
		}
		has(t, s, run, "")
		lacks(t, s, 0)
		lacks(t, s, 2)
		s.Drop(run)
		lacks(t, s, run)
	}
	has(t, s, 1, "b")
}

// P14.1: as many as MaxRuns runs there may be, those that are gone included.
func TestCreateFull(t *testing.T) {
	for _, drop := range []func(run int) bool{
		func(run int) bool { return false },
		func(run int) bool { return true },
		func(run int) bool { return run%3 == 1 },
	} {
		s := store.New(10, nil)
		for want := range api.MaxRuns {
			if run, e := s.Create(); run != want || e != api.OK {
				t.Fatalf("Create: %d, %d, not %d", run, e, want)
			}
			if drop(want) {
				s.Drop(want)
			}
		}
		last := api.MaxRuns - 1
		for range 3 {
			if run, e := s.Create(); run != 0 || e != api.ErrFull {
				t.Errorf("one run too many: %d, %d", run, e)
			}
			lacks(t, s, api.MaxRuns)
			if drop(last) {
				lacks(t, s, last)
			} else {
				has(t, s, last, "")
			}
		}
		s.Drop(0)
		s.Drop(last)
		if run, e := s.Create(); run != 0 || e != api.ErrFull {
			t.Errorf("one run too many, after Drop: %d, %d", run, e)
		}
		lacks(t, s, 0)
	}
}

// P14.1: runs that are there go on when no more may be made.
func TestFullOfRuns(t *testing.T) {
	s := store.New(10, nil)
	for range api.MaxRuns {
		s.Create()
	}
	s.Create()
	for _, run := range []int{0, 1, api.MaxRuns - 1} {
		if e := s.Append(run, []byte("ab")); e != api.OK {
			t.Errorf("Append(%d): %d", run, e)
		}
		has(t, s, run, "ab")
	}
	counts(t, s, 6, 6, 3)
}

// P14.1: what is dropped is gone, and it alone; its bytes are free again.
func TestDrop(t *testing.T) {
	s := made(t, 9, "abc", "defg", "hi", "")
	if e := s.Append(3, []byte("x")); e != api.ErrFull {
		t.Error(e)
	}
	if e := s.Drop(1); e != api.OK {
		t.Error(e)
	}
	counts(t, s, 5, 9, 5)
	lacks(t, s, 1)
	has(t, s, 0, "abc")
	has(t, s, 2, "hi")
	has(t, s, 3, "")
	if e := s.Append(3, []byte("xxxxx")); e != api.ErrFull {
		t.Error(e)
	}
	if e := s.Append(3, []byte("xxxx")); e != api.OK {
		t.Error(e)
	}
	counts(t, s, 9, 9, 7)
	for _, run := range []int{0, 2, 3} {
		if e := s.Drop(run); e != api.OK {
			t.Error(run, e)
		}
		lacks(t, s, run)
	}
	counts(t, s, 0, 9, 7)
}

// P14.1: Drop of what is not there changes nothing.
func TestDropNone(t *testing.T) {
	s := made(t, 9, "abc", "de")
	for _, run := range []int{-1, 2, 3, math.MaxInt, math.MinInt, api.MaxRuns} {
		lacks(t, s, run)
	}
	has(t, s, 0, "abc")
	has(t, s, 1, "de")
	counts(t, s, 5, 5, 2)
}

// P14.1: Size counts the bytes of its run alone.
func TestSize(t *testing.T) {
	s := made(t, 1000, "", "a", "bc", strings.Repeat("d", 500))
	for run, want := range []int{0, 1, 2, 500, 0, 0} {
		if n := s.Size(run); n != want {
			t.Errorf("Size(%d): %d, not %d", run, n, want)
		}
	}
	for _, run := range []int{-1, math.MinInt, math.MaxInt} {
		if n := s.Size(run); n != 0 {
			t.Errorf("Size(%d): %d", run, n)
		}
	}
	s.Append(1, []byte("bcd"))
	if n := s.Size(1); n != 4 {
		t.Error(n)
	}
}

// P14.1, P14.2, P14.3: a nil store answers ErrArg, nothing, 0; R1: one that New did not make answers somehow.
func TestNil(t *testing.T) {
	var s *store.Store
	for range 2 {
		for _, run := range []int{0, 1, -1, math.MaxInt, math.MinInt} {
			if e := s.Append(run, []byte("a")); e != api.ErrArg {
				t.Error(run, e)
			}
			if e := s.Append(run, nil); e != api.ErrArg {
				t.Error(run, e)
			}
			if b, e := s.Read(run, run, run); len(b) != 0 || e != api.ErrArg {
				t.Error(run, b, e)
			}
			if e := s.Drop(run); e != api.ErrArg {
				t.Error(run, e)
			}
			if n := s.Size(run); n != 0 {
				t.Error(run, n)
			}
		}
		if run, e := s.Create(); run != 0 || e != api.ErrArg {
			t.Error(run, e)
		}
		counts(t, s, 0, 0, 0)
	}
	s = new(store.Store)
	for range 3 {
		s.Append(0, []byte("a"))
		s.Append(0, nil)
		s.Read(0, 0, 1)
		s.Drop(0)
		s.Size(0)
		s.Create()
	}
	s.Used()
	s.Peak()
	s.Writes()
}

// R5: stores do not touch each other.
func TestApart(t *testing.T) {
	one, two := made(t, 10, "abc"), made(t, 20, "de", "f")
	one.Append(0, []byte("x"))
	one.Create()
	two.Drop(0)
	has(t, one, 0, "abcx")
	has(t, one, 1, "")
	has(t, two, 1, "f")
	lacks(t, two, 0)
	counts(t, one, 4, 4, 2)
	counts(t, two, 1, 3, 2)
}
