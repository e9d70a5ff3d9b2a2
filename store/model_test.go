package store_test

import (
	"fmt"
	"testing"

	"bindle/api"
	"bindle/store"
)

// model is a store told once more: it keeps each write that was done, and works all answers out of these.
type model struct {
	room  int
	fails []int
	gone  []bool // of each run that there was
	done  []write
	count int // of writes, failed ones too
	past  []int
}

// write is what was laid behind a run.
type write struct {
	run int
	b   string
}

// there tells whether there is such a run.
func (m *model) there(run int) bool {
	return run >= 0 && run < len(m.gone) && !m.gone[run]
}

// bytes are all bytes of a run.
func (m *model) bytes(run int) string {
	all := ""
	for _, w := range m.done {
		if w.run == run && m.there(run) {
			all += w.b
		}
	}
	return all
}

// used are the bytes of all runs.
func (m *model) used() int {
	n := 0
	for run := range m.gone {
		n += len(m.bytes(run))
	}
	return n
}

// peak is the greatest used that there was.
func (m *model) peak() int {
	most := 0
	for _, n := range m.past {
		most = max(most, n)
	}
	return most
}

func (m *model) create() (int, api.Errno) {
	if len(m.gone) >= 1<<16 {
		return 0, api.ErrFull
	}
	m.gone = append(m.gone, false)
	return len(m.gone) - 1, api.OK
}

func (m *model) append(run int, b string) api.Errno {
	if !m.there(run) {
		return api.ErrNone
	}
	m.count++
	for _, number := range m.fails {
		if number == m.count-1 {
			return api.ErrIO
		}
	}
	if m.used()+len(b) > m.room && m.used()+len(b) > 0 {
		return api.ErrFull
	}
	m.done = append(m.done, write{run, b})
	m.past = append(m.past, m.used())
	return api.OK
}

func (m *model) read(run, at, n int) (string, api.Errno) {
	if !m.there(run) {
		return "", api.ErrNone
	}
	b := m.bytes(run)
	if at < 0 || n < 0 || at > len(b) {
		return "", api.ErrArg
	}
	out := ""
	for i := at; i < len(b) && len(out) < n; i++ {
		out += b[i : i+1]
	}
	return out, api.OK
}

func (m *model) drop(run int) api.Errno {
	if !m.there(run) {
		return api.ErrNone
	}
	m.gone[run] = true
	return api.OK
}

// pair is a store, and what it is held against.
type pair struct {
	t    *testing.T
	what string // the calls so far
	got  *store.Store
	want *model
}

// newPair makes both of them.
func newPair(t *testing.T, room int, fails ...int) *pair {
	p := &pair{t, fmt.Sprintf("New(%d, %v)", room, fails), store.New(room, fails), &model{room: room, fails: fails}}
	p.state()
	return p
}

// state holds all against each other that is answered without a change.
func (p *pair) state() {
	p.t.Helper()
	got := fmt.Sprint(p.got.Used(), p.got.Peak(), p.got.Writes())
	if want := fmt.Sprint(p.want.used(), p.want.peak(), p.want.count); got != want {
		p.t.Fatalf("%s: Used, Peak, Writes %s, not %s", p.what, got, want)
	}
	for run := -1; run < len(p.want.gone)+2; run++ {
		if got, want := p.got.Size(run), len(p.want.bytes(run)); got != want {
			p.t.Fatalf("%s: Size(%d) %d, not %d", p.what, run, got, want)
		}
		p.read(run, 0, 1<<20)
	}
}

func (p *pair) create() {
	p.t.Helper()
	p.what += ", Create"
	got, e := p.got.Create()
	if want, f := p.want.create(); got != want || e != f {
		p.t.Fatalf("%s: %d, %d, not %d, %d", p.what, got, e, want, f)
	}
	p.state()
}

func (p *pair) append(run int, b string) {
	p.t.Helper()
	p.what += fmt.Sprintf(", Append(%d, %q)", run, b)
	e := p.got.Append(run, []byte(b))
	if f := p.want.append(run, b); e != f {
		p.t.Fatalf("%s: %d, not %d", p.what, e, f)
	}
	p.state()
}

func (p *pair) drop(run int) {
	p.t.Helper()
	p.what += fmt.Sprintf(", Drop(%d)", run)
	e := p.got.Drop(run)
	if f := p.want.drop(run); e != f {
		p.t.Fatalf("%s: %d, not %d", p.what, e, f)
	}
	p.state()
}

func (p *pair) read(run, at, n int) {
	p.t.Helper()
	got, e := p.got.Read(run, at, n)
	if want, f := p.want.read(run, at, n); string(got) != want || e != f {
		p.t.Fatalf("%s: Read(%d, %d, %d): %q, %d, not %q, %d", p.what, run, at, n, got, e, want, f)
	}
}

// made is a store with these runs.
func made(t *testing.T, room int, runs ...string) *store.Store {
	t.Helper()
	s := store.New(room, nil)
	for i, b := range runs {
		run, e := s.Create()
		if run != i || e != api.OK {
			t.Fatalf("Create: %d, %d", run, e)
		}
		if e := s.Append(run, []byte(b)); e != api.OK {
			t.Fatalf("Append(%d, %q): %d", run, b, e)
		}
	}
	return s
}

// has expects a run to have these bytes.
func has(t *testing.T, s *store.Store, run int, want string) {
	t.Helper()
	if b, e := s.Read(run, 0, len(want)+10); e != api.OK || string(b) != want {
		t.Errorf("Read of run %d: %.60q, %d, not %.60q", run, b, e, want)
	}
	if n := s.Size(run); n != len(want) {
		t.Errorf("Size(%d): %d, not %d", run, n, len(want))
	}
}

// counts expects Used, Peak and Writes.
func counts(t *testing.T, s *store.Store, used, peak, writes int) {
	t.Helper()
	if s.Used() != used || s.Peak() != peak || s.Writes() != writes {
		t.Errorf("Used %d, Peak %d, Writes %d, not %d, %d, %d", s.Used(), s.Peak(), s.Writes(), used, peak, writes)
	}
}

// lacks expects a run not to be there.
func lacks(t *testing.T, s *store.Store, run int) {
	t.Helper()
	writes := s.Writes()
	if e := s.Append(run, []byte("x")); e != api.ErrNone {
		t.Errorf("Append(%d): %d", run, e)
	}
	if b, e := s.Read(run, 0, 1); e != api.ErrNone || len(b) != 0 {
		t.Errorf("Read(%d): %q, %d", run, b, e)
	}
	if e := s.Drop(run); e != api.ErrNone {
		t.Errorf("Drop(%d): %d", run, e)
	}
	if n := s.Size(run); n != 0 {
		t.Errorf("Size(%d): %d", run, n)
	}
	if s.Writes() != writes {
		t.Errorf("an Append to run %d, which is not there, counts as a write", run)
	}
}
