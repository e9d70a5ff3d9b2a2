package heap_test

import (
	"fmt"
	"math"
	"math/rand"
	"slices"
	"strings"
	"testing"

	"bindle/api"
	"bindle/heap"
)

// entry is an entry with these fields.
func entry(key string, seq, run int, data string) api.Entry {
	return api.Entry{Item: api.Item{Key: key, Seq: seq, Data: []byte(data)}, Run: run}
}

// told is an entry as a text, all of it, so that two of one text are the same.
func told(x api.Entry) string {
	return fmt.Sprintf("{%q %d %q %d}", x.Item.Key, x.Item.Seq, x.Item.Data, x.Run)
}

// modelFirst tells whether no entry may come ahead of x because of y: by Key byte by byte, then by Seq, then by Run.
func modelFirst(x, y api.Entry) bool {
	a, b := x.Item.Key, y.Item.Key
	for i := 0; i < len(a) && i < len(b); i++ {
		if a[i] != b[i] {
			return a[i] < b[i]
		}
	}
	if len(a) != len(b) {
		return len(a) < len(b)
	}
	if x.Item.Seq != y.Item.Seq {
		return x.Item.Seq < y.Item.Seq
	}
	return x.Run <= y.Run
}

// model is a heap told once more: a list in which all are held against all. Data are texts there, which nobody changes.
type model struct {
	list []string
	all  map[string]api.Entry
}

// push adds an entry.
func (m *model) push(x api.Entry) {
	if m.all == nil {
		m.all = map[string]api.Entry{}
	}
	m.list = append(m.list, told(x))
	m.all[told(x)] = entry(x.Item.Key, x.Item.Seq, x.Run, string(x.Item.Data))
}

// may tells whether x is there, and may come first.
func (m *model) may(x api.Entry) bool {
	for _, other := range m.list {
		if !modelFirst(x, m.all[other]) {
			return false
		}
	}
	return slices.Contains(m.list, told(x))
}

// pop takes x away.
func (m *model) pop(x api.Entry) {
	at := slices.Index(m.list, told(x))
	m.list = slices.Delete(m.list, at, at+1)
}

// pair is a heap, and what it is held against.
type pair struct {
	t    *testing.T
	what []string // the calls so far
	got  *heap.Heap
	want *model
}

// newPair makes both of them.
func newPair(t *testing.T) *pair {
	p := &pair{t: t, got: new(heap.Heap), want: new(model)}
	p.state()
	return p
}

// fail tells the calls so far, and ends the test.
func (p *pair) fail(what string) {
	p.t.Helper()
	p.t.Fatalf("%.1000s: %s; there are %.1000v", strings.Join(p.what, ", "), what, p.want.list)
}

// state expects Len and Least, each asked twice, to answer as the model does.
func (p *pair) state() {
	p.t.Helper()
	for range 2 {
		if n := p.got.Len(); n != len(p.want.list) {
			p.fail(fmt.Sprintf("Len %d, not %d", n, len(p.want.list)))
		}
		x, ok := p.got.Least()
		p.check("Least", x, ok)
	}
}

// check expects an entry that may come first, or nothing where there is none.
func (p *pair) check(name string, x api.Entry, ok bool) {
	p.t.Helper()
	if ok != (len(p.want.list) > 0) {
		p.fail(fmt.Sprintf("%s: %s, %v", name, told(x), ok))
	}
	if ok && !p.want.may(x) || !ok && told(x) != told(api.Entry{}) {
		p.fail(fmt.Sprintf("%s: %s", name, told(x)))
	}
}

func (p *pair) push(x api.Entry) {
	p.t.Helper()
	p.what = append(p.what, "Push "+told(x))
	p.got.Push(x)
	p.want.push(x)
	p.state()
}

func (p *pair) pop() {
	p.t.Helper()
	p.what = append(p.what, "Pop")
	x, ok := p.got.Pop()
	p.check("Pop", x, ok)
	if ok {
		p.want.pop(x)
	}
	p.state()
}

// empty pops all that there is, and twice more.
func (p *pair) empty() {
	p.t.Helper()
	for range len(p.want.list) + 2 {
		p.pop()
	}
}

// drawn is an entry of few keys and numbers, so that many are alike; Data tells them apart.
func drawn(pick *rand.Rand, number int) api.Entry {
	keys := []string{"", "a", "a\x00", "a.b", "a/b", "b", "\xff"}
	seqs := []int{0, 1, 2, -1, math.MaxInt, math.MinInt}
	return entry(keys[pick.Intn(len(keys))], seqs[pick.Intn(len(seqs))], pick.Intn(5)-2, fmt.Sprint(number))
}

// pops are the Data of all that a heap has, as they come.
func pops(h *heap.Heap) string {
	var all []string
	for x, ok := h.Pop(); ok; x, ok = h.Pop() {
		all = append(all, string(x.Item.Data))
	}
	return strings.Join(all, " ")
}
