package block_test

import (
	"bytes"
	"math"
	"slices"
	"strconv"
	"testing"

	"bindle/api"
	"bindle/block"
	"bindle/num"
)

// chunkings are chunks of all sorts: none, one by one, wrong ones, larger ones than anything, mixed ones.
var chunkings = [][]int{
	nil, {}, {1}, {0}, {-1}, {math.MinInt}, {math.MaxInt}, {511}, {512}, {513}, {1024},
	{100, 0, 333}, {1, 2, 3}, {math.MinInt, math.MaxInt}, {700, -700}, {512, 1, 511},
}

// numbered are n bytes, none of them 0, that differ from their neighbours.
func numbered(n int) []byte {
	b := make([]byte, n)
	for i := range b {
		b[i] = byte(i*7%251) + 1
	}
	return b
}

// source is P3.1 once more, over the whole list and a place in it.
type source struct {
	b  []byte
	at int
}

func (s *source) block() ([]byte, api.Errno) {
	if s.at == len(s.b) {
		return nil, api.ErrNone
	}
	return s.take(api.Block, api.Block)
}

func (s *source) body(n int) ([]byte, api.Errno) {
	if n < 0 || n > num.Max {
		return nil, api.ErrNumber
	}
	return s.take(n, (n+api.Block-1)/api.Block*api.Block)
}

func (s *source) take(n, whole int) ([]byte, api.Errno) {
	if whole > len(s.b)-s.at {
		s.at = len(s.b)
		return nil, api.ErrShort
	}
	s.at += whole
	return s.b[s.at-whole : s.at-whole+n], api.OK
}

func (s *source) rest() bool {
	return bytes.Count(s.b[s.at:], []byte{0}) == len(s.b)-s.at
}

// pair is a source, and what it is held against.
type pair struct {
	t    *testing.T
	what string
	got  *block.Source
	want *source
}

func newPair(t *testing.T, b []byte, chunks []int) *pair {
	p := &pair{t, strconv.Itoa(len(b)) + " bytes", block.New(b, chunks), &source{b: slices.Clone(b)}}
	p.state()
	return p
}

// state holds Place and Rest against each other.
func (p *pair) state() {
	p.t.Helper()
	if got := p.got.Place(); got != p.want.at {
		p.t.Fatalf("%s: place %d, want %d", p.what, got, p.want.at)
	}
	if got := p.got.Rest(); got != p.want.rest() {
		p.t.Fatalf("%s: at %d rest %v", p.what, p.want.at, got)
	}
	if got := p.got.Place(); got != p.want.at {
		p.t.Fatalf("%s: place %d behind Rest, want %d", p.what, got, p.want.at)
	}
}

func (p *pair) answer(got []byte, e api.Errno, want []byte, f api.Errno) {
	p.t.Helper()
	if e != f || !bytes.Equal(got, want) {
		p.t.Fatalf("%s: %d bytes, %d, want %d bytes, %d", p.what, len(got), e, len(want), f)
	}
	p.state()
}

func (p *pair) block() {
	p.t.Helper()
	p.what += ", Block"
	got, e := p.got.Block()
	want, f := p.want.block()
	p.answer(got, e, want, f)
}

func (p *pair) body(n int) {
	p.t.Helper()
	p.what += ", Body " + strconv.Itoa(n)
	got, e := p.got.Body(n)
	want, f := p.want.body(n)
	p.answer(got, e, want, f)
}

// P3.1: blocks one after the other, up to the end of lists of all lengths.
func TestBlock(t *testing.T) {
	for _, chunks := range chunkings {
		for _, n := range []int{0, 1, 2, 100, 511, 512, 513, 600, 1023, 1024, 1025, 1536, 5000} {
			p := newPair(t, numbered(n), chunks)
			for range n/api.Block + 3 {
				p.block()
			}
		}
	}
}

// P3.1: Block by cases: ErrNone only where all was read, ErrShort reads all.
func TestBlockEnd(t *testing.T) {
	s := block.New(numbered(1025), nil)
	for i := range 2 {
		if b, e := s.Block(); e != api.OK || !bytes.Equal(b, numbered(1025)[i*512:i*512+512]) || s.Place() != i*512+512 {
			t.Error(i, len(b), e, s.Place())
		}
	}
	if b, e := s.Block(); e != api.ErrShort || len(b) != 0 || s.Place() != 1025 || !s.Rest() {
		t.Error(len(b), e, s.Place())
	}
	for range 3 {
		if b, e := s.Block(); e != api.ErrNone || len(b) != 0 || s.Place() != 1025 || !s.Rest() {
			t.Error(len(b), e, s.Place())
		}
	}
	for _, b := range [][]byte{nil, {}} {
		s = block.New(b, nil)
		if b, e := s.Block(); e != api.ErrNone || len(b) != 0 || s.Place() != 0 || !s.Rest() {
			t.Error(len(b), e, s.Place())
		}
	}
}

// P3.1: bodies of all sizes at lists of all lengths: what lacks may be of the body, or of what is left out.
func TestBody(t *testing.T) {
	sizes := []int{0, 1, 2, 100, 511, 512, 513, 514, 1023, 1024, 1025, 1536, 5000}
	for _, chunks := range chunkings {
		for _, have := range append(sizes, 510, 1022, 5119, 5120, 5121) {
			for _, n := range sizes {
				p := newPair(t, numbered(have), chunks)
				p.body(n)
				p.body(n)
				p.block()
			}
		}
	}
}

// P3.1: Body by cases.
func TestBodyCases(t *testing.T) {
	for _, x := range []struct {
		have, n int
		e       api.Errno
		place   int
	}{
		{0, 0, api.OK, 0},
		{10, 0, api.OK, 0},
		{512, 1, api.OK, 512},
		{511, 1, api.ErrShort, 511},
		{0, 1, api.ErrShort, 0},
		{1, 1, api.ErrShort, 1},
		{512, 512, api.OK, 512},
		{600, 512, api.OK, 512},
		{1023, 513, api.ErrShort, 1023},
		{1024, 513, api.OK, 1024},
		{2000, 513, api.OK, 1024},
		{2000, num.Max, api.ErrShort, 2000},
		{2000, num.Max - 1, api.ErrShort, 2000},
		{2000, num.Max - 511, api.ErrShort, 2000},
		{2000, 1 << 40, api.ErrShort, 2000},
		{0, num.Max, api.ErrShort, 0},
		{2000, num.Max + 1, api.ErrNumber, 0},
		{2000, math.MaxInt, api.ErrNumber, 0},
		{2000, -1, api.ErrNumber, 0},
		{2000, -512, api.ErrNumber, 0},
		{2000, math.MinInt, api.ErrNumber, 0},
		{0, -1, api.ErrNumber, 0},
		{0, num.Max + 1, api.ErrNumber, 0},
	} {
		s := block.New(numbered(x.have), nil)
		b, e := s.Body(x.n)
		var want []byte
		if x.e == api.OK {
			want = numbered(x.have)[:x.n]
		}
		if e != x.e || !bytes.Equal(b, want) || s.Place() != x.place {
			t.Errorf("Body(%d) of %d bytes: %d bytes, %d, place %d", x.n, x.have, len(b), e, s.Place())
		}
	}
}

// P3.1: a wrong number reads nothing, wherever the source is.
func TestBodyWrongNumber(t *testing.T) {
	p := newPair(t, numbered(2000), []int{3})
	for _, n := range []int{-1, num.Max + 1, math.MinInt, math.MaxInt} {
		p.body(n)
		p.block()
	}
	p.body(-1)
	p.body(0)
}

// P3.1: Rest looks at each byte that is left, and at no other one.
func TestRest(t *testing.T) {
	for _, n := range []int{1, 512, 513, 1024, 1025, 1536} {
		for i := range n {
			b := make([]byte, n)
			b[i] = byte(1 << (i % 8))
			s := block.New(b, []int{100})
			if s.Rest() {
				t.Errorf("byte %d of %d", i, n)
			}
			if n >= api.Block {
				s.Block()
				if s.Rest() != (i < api.Block) {
					t.Errorf("byte %d of %d behind a block", i, n)
				}
			}
		}
		if !block.New(make([]byte, n), nil).Rest() {
			t.Errorf("%d bytes 0", n)
		}
	}
	if !block.New(nil, nil).Rest() || !block.New([]byte{}, []int{1}).Rest() {
		t.Error("none is left")
	}
}

// P3.1: calls in all sorts of orders, by all sorts of chunks.
func TestSourceMixed(t *testing.T) {
	seed := uint32(3)
	next := func(n int) int {
		seed = seed*1664525 + 1013904223
		return int(seed>>8) % n
	}
	for range 300 {
		b := numbered(next(6000))
		clear(b[next(len(b)+1):])
		p := newPair(t, b, chunkings[next(len(chunkings))])
		for range 12 {
			switch next(3) {
			case 0:
				p.block()
			case 1:
				p.body(next(1100))
			default:
				p.body([]int{0, 1, 511, 512, 513, -1, num.Max, num.Max + 1}[next(8)])
			}
		}
	}
}

// P3.1: a nil source, and R1 for one that New did not make.
func TestSourceNil(t *testing.T) {
	var s *block.Source
	for range 2 {
		if b, e := s.Block(); len(b) != 0 || e != api.ErrArg {
			t.Error(b, e)
		}
		for _, n := range []int{0, 1, -1, num.Max, num.Max + 1} {
			if b, e := s.Body(n); len(b) != 0 || e != api.ErrArg {
				t.Error(n, b, e)
			}
		}
		if s.Place() != 0 || s.Rest() {
			t.Error(s.Place(), s.Rest())
		}
	}
	s = new(block.Source)
	s.Block()
	s.Body(1)
	s.Place()
	s.Rest()
}

// P3.1 with R4: what is handed in is neither changed, spare room included, nor kept.
func TestSourceKeepsNothing(t *testing.T) {
	whole, chunks := numbered(2048), []int{5, 600, -3, 9}
	b := whole[:1536]
	s := block.New(b, chunks[:3])
	want := numbered(2048)
	one, _ := s.Block()
	two, _ := s.Body(100)
	s.Body(0)
	s.Rest()
	if !bytes.Equal(whole, want) || !slices.Equal(chunks, []int{5, 600, -3, 9}) {
		t.Error("changed")
	}
	clear(one[:cap(one)])
	clear(two[:cap(two)])
	if !bytes.Equal(whole, want) {
		t.Error("an answer shares its memory with the list")
	}
	s = block.New(b, chunks[:3])
	clear(whole)
	clear(chunks)
	if got, e := s.Body(700); e != api.OK || !bytes.Equal(got, want[:700]) {
		t.Error("the list was kept")
	}
	if b, e := s.Block(); e != api.OK || !bytes.Equal(b, want[1024:1536]) {
		t.Error("the list was kept")
	}
}

// P3.1 with R4: an answer shares no memory with another one, nor with what is still to come.
func TestSourceNewMemory(t *testing.T) {
	for _, chunks := range chunkings {
		b := numbered(2560)
		s := block.New(b, chunks)
		one, _ := s.Block()
		two, _ := s.Body(600)
		clear(one[:cap(one)])
		_ = append(one, make([]byte, 2048)...)
		if !bytes.Equal(two, b[512:1112]) {
			t.Error("a body shares its memory with a block")
		}
		clear(two[:cap(two)])
		_ = append(two, make([]byte, 2048)...)
		if three, e := s.Body(1000); e != api.OK || !bytes.Equal(three, b[1536:2536]) {
			t.Error("what is to come shares its memory with an answer")
		}
	}
}

// Ways: a body is cut off, so that what was left out is not its spare room.
func TestBodyCutOff(t *testing.T) {
	for _, n := range []int{0, 1, 100, 511, 512, 513} {
		b, e := block.New(numbered(1024), nil).Body(n)
		if e != api.OK || len(b) != n || cap(b) != n {
			t.Error(n, len(b), cap(b), e)
		}
	}
}

// P3.1 with R5: sources over one list do not touch each other.
func TestSourcesApart(t *testing.T) {
	b, chunks := numbered(1024), []int{7, 300}
	one, two := block.New(b, chunks), block.New(b, chunks)
	one.Block()
	one.Block()
	if got, e := two.Block(); e != api.OK || !bytes.Equal(got, b[:512]) || two.Place() != 512 || one.Place() != 1024 {
		t.Error(len(got), e, one.Place(), two.Place())
	}
}
