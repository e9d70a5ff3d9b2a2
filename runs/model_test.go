package runs_test

import (
	"encoding/binary"
	"fmt"
	"math/rand"
	"slices"
	"strings"
	"testing"

	"bindle/api"
	"bindle/runs"
	"bindle/store"
)

// item is an item with these fields.
func item(key string, seq int, data string) api.Item {
	return api.Item{Key: key, Seq: seq, Data: []byte(data)}
}

// told is an item as a text, all of it, so that two of one text are the same.
func told(x api.Item) string {
	return fmt.Sprintf("{%.300q %d %.300q %d}", x.Key, x.Seq, x.Data, len(x.Data))
}

// wire are an item's bytes, told once more.
func wire(x api.Item) string {
	b := binary.BigEndian.AppendUint32(nil, uint32(len(x.Key)))
	b = binary.BigEndian.AppendUint64(append(b, x.Key...), uint64(x.Seq))
	return string(binary.BigEndian.AppendUint32(b, uint32(len(x.Data)))) + string(x.Data)
}

// wires are the bytes of these items, one behind the other.
func wires(list ...api.Item) string {
	all := ""
	for _, x := range list {
		all += wire(x)
	}
	return all
}

// ordered are the items in their order, those that are alike as they came: each is laid behind all that are not greater.
func ordered(list []api.Item) []api.Item {
	var out []api.Item
	for _, x := range list {
		at := len(out)
		for at > 0 && (out[at-1].Key > x.Key || out[at-1].Key == x.Key && out[at-1].Seq > x.Seq) {
			at--
		}
		out = slices.Insert(out, at, x)
	}
	return out
}

// model is a Former and its store, told once more: each call is worked out step by step.
type model struct {
	budget, room int
	fails        []int
	held         []api.Item
	bytes        []string // of each run that was created
	numbers      []int    // of the runs that were written whole
	writes       int
	e            api.Errno
}

// append is a write to the last run.
func (m *model) append(b string) api.Errno {
	m.writes++
	if slices.Contains(m.fails, m.writes-1) {
		return api.ErrIO
	}
	if len(strings.Join(m.bytes, ""))+len(b) > m.room {
		return api.ErrFull
	}
	m.bytes[len(m.bytes)-1] += b
	return api.OK
}

// write writes a run; behind an error all stays held.
func (m *model) write() {
	m.bytes = append(m.bytes, "")
	for _, x := range ordered(m.held) {
		if m.e = m.append(wire(x)); m.e != api.OK {
			return
		}
	}
	m.numbers = append(m.numbers, len(m.bytes)-1)
	m.held = nil
}

// wrong tells whether an item may not be.
func wrong(x api.Item) bool {
	return len(x.Key) > 200 || x.Seq < 0 || x.Seq > 1<<62 || len(x.Data) > 1<<20
}

func (m *model) add(list []api.Item) api.Errno {
	for _, x := range list {
		if m.e != api.OK {
			break
		}
		if wrong(x) {
			return api.ErrArg
		}
		m.held = append(m.held, item(x.Key, x.Seq, string(x.Data)))
		if len(m.held) == m.budget {
			m.write()
		}
	}
	return m.e
}

func (m *model) close() ([]int, api.Errno) {
	if m.e == api.OK && len(m.held) > 0 {
		m.write()
	}
	if m.e != api.OK {
		return nil, m.e
	}
	return m.numbers, api.OK
}

// pair is a Former with its store, and what it is held against.
type pair struct {
	t     *testing.T
	what  string // the calls so far
	store *store.Store
	got   *runs.Former
	want  *model
}

// newPair makes both of them.
func newPair(t *testing.T, budget, room int, fails ...int) *pair {
	t.Helper()
	s := store.New(room, fails)
	f, e := runs.New(s, budget)
	if f == nil || e != api.OK {
		t.Fatalf("New(.., %d): %d", budget, e)
	}
	p := &pair{t, fmt.Sprintf("New(store.New(%d, %v), %d)", room, fails, budget), s, f, &model{budget: budget, room: room, fails: fails}}
	p.state()
	return p
}

// state holds all against each other that is answered without a change.
func (p *pair) state() {
	p.t.Helper()
	if p.got.Held() != len(p.want.held) || p.store.Writes() != p.want.writes {
		p.t.Fatalf("%.2000s: Held %d, Writes %d, not %d, %d", p.what, p.got.Held(), p.store.Writes(), len(p.want.held), p.want.writes)
	}
	for run := range len(p.want.bytes) + 2 {
		want := ""
		if run < len(p.want.bytes) {
			want = p.want.bytes[run]
		}
		if got := bytesOf(p.store, run); got != want {
			p.t.Fatalf("%.2000s: run %d: %q, not %q", p.what, run, got, want)
		}
	}
}

// bytesOf are all bytes of a run.
func bytesOf(s *store.Store, run int) string {
	b, _ := s.Read(run, 0, s.Size(run))
	return string(b)
}

func (p *pair) add(list ...api.Item) {
	p.t.Helper()
	p.what += ", Add("
	for _, x := range list {
		p.what += told(x)
	}
	p.what += ")"
	e := p.got.Add(list...)
	if want := p.want.add(list); e != want {
		p.t.Fatalf("%.2000s: %d, not %d", p.what, e, want)
	}
	p.state()
}

func (p *pair) close() {
	p.t.Helper()
	p.what += ", Close"
	got, e := p.got.Close()
	if want, f := p.want.close(); !slices.Equal(got, want) || e != f {
		p.t.Fatalf("%.2000s: %v, %d, not %v, %d", p.what, got, e, want, f)
	}
	p.state()
}

// next expects no run beside those of the model: the next one that is created has this number.
func (p *pair) next() {
	p.t.Helper()
	if run, e := p.store.Create(); run != len(p.want.bytes) || e != api.OK {
		p.t.Fatalf("%.2000s: the next run is %d, %d, not %d", p.what, run, e, len(p.want.bytes))
	}
}

// drawn is an item of few keys and numbers, so that many are alike; Data tells them apart. One of ten may not be.
func drawn(pick *rand.Rand, number int) api.Item {
	keys := []string{"", "a", "a\x00", "a.b", "a/b", "b", "\xff"}
	x := item(keys[pick.Intn(len(keys))], pick.Intn(3), fmt.Sprint(number))
	if pick.Intn(10) == 0 {
		x.Seq = -1
	}
	return x
}

// filled is a store with a run of these bytes, and the run's number, which is not 0.
func filled(t *testing.T, b string) (*store.Store, int) {
	t.Helper()
	s := store.New(1<<30, nil)
	s.Create()
	run, e := s.Create()
	if f := s.Append(run, []byte(b)); e != api.OK || f != api.OK {
		t.Fatal(e, f)
	}
	return s, run
}

// gives expects a cursor to give these items, and then nothing, however often it is asked.
func gives(t *testing.T, what string, c *runs.Cursor, want ...api.Item) {
	t.Helper()
	for n, x := range want {
		if got, ok := c.Next(); !ok || told(got) != told(x) {
			t.Fatalf("%s: item %d: %s, %v, not %s", what, n, told(got), ok, told(x))
		}
	}
	for range 3 {
		if got, ok := c.Next(); ok || told(got) != told(api.Item{}) {
			t.Fatalf("%s: behind %d items: %s, %v", what, len(want), told(got), ok)
		}
	}
}
