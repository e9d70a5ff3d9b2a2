package block_test

import (
	"bytes"
	"testing"

	"bindle/api"
	"bindle/block"
)

// holds holds all that was put against what it should be, twice: Out takes nothing out.
func holds(t *testing.T, k *block.Sink, want []byte) {
	t.Helper()
	for range 2 {
		if got := k.Out(); !bytes.Equal(got, want) {
			t.Errorf("%d bytes, want %d", len(got), len(want))
		}
	}
}

// P3.2: a new sink is empty.
func TestSinkNew(t *testing.T) {
	holds(t, new(block.Sink), nil)
}

// P3.2: Put of no list, of empty lists, of one, of several.
func TestPut(t *testing.T) {
	k := new(block.Sink)
	k.Put()
	k.Put(nil)
	k.Put(nil, []byte{}, nil)
	holds(t, k, nil)
	k.Put([]byte("a"))
	holds(t, k, []byte("a"))
	k.Put([]byte("bc"), nil, []byte("\x00d"), []byte("e"))
	holds(t, k, []byte("abc\x00de"))
	k.Put([][]byte{}...)
	k.Put([][]byte{numbered(600), []byte("f")}...)
	holds(t, k, append(append([]byte("abc\x00de"), numbered(600)...), 'f'))
}

// P3.2: Body adds bytes 0 to a whole block, of the body, wherever it begins.
func TestSinkBody(t *testing.T) {
	for _, ahead := range []int{0, 1, 512} {
		for _, x := range [][2]int{{0, 0}, {1, 512}, {2, 512}, {511, 512}, {512, 512}, {513, 1024}, {1023, 1024}, {1024, 1024}, {1025, 1536}} {
			k := new(block.Sink)
			k.Put(numbered(ahead))
			k.Body(numbered(x[0]))
			want := append(numbered(ahead), numbered(x[0])...)
			want = append(want, make([]byte, x[1]-x[0])...)
			holds(t, k, want)
		}
	}
	k := new(block.Sink)
	k.Body(nil)
	k.Body([]byte{})
	holds(t, k, nil)
}

// P3.2: End, and the chapter's example.
func TestEnd(t *testing.T) {
	k := new(block.Sink)
	k.End()
	holds(t, k, make([]byte, 1024))
	k.End()
	holds(t, k, make([]byte, 2048))
	k = new(block.Sink)
	k.Body([]byte("abc"))
	want := append([]byte("abc"), make([]byte, 509)...)
	holds(t, k, want)
	k.End()
	want = append(want, make([]byte, 1024)...)
	holds(t, k, want)
	k.Put([]byte("z"))
	holds(t, k, append(want, 'z'))
}

// P3.2: a nil sink.
func TestSinkNil(t *testing.T) {
	var k *block.Sink
	k.Put()
	k.Put([]byte("a"), nil)
	k.Body([]byte("a"))
	k.Body(nil)
	k.End()
	if b := k.Out(); len(b) != 0 {
		t.Error(b)
	}
}

// P3.2 with R4: what is handed in is neither changed, spare room included, nor kept.
func TestSinkKeepsNothing(t *testing.T) {
	whole := numbered(1200)
	list := [][]byte{whole[:10], whole[20:30], whole[40:50]}
	k := new(block.Sink)
	k.Put(list[:2]...)
	k.Body(whole[:600])
	k.End()
	k.Put([]byte("x"))
	if !bytes.Equal(whole, numbered(1200)) || &list[2][0] != &whole[40] {
		t.Error("changed")
	}
	want := k.Out()
	clear(whole)
	clear(list)
	holds(t, k, want)
	if !bytes.Equal(want[:20], append(numbered(10), numbered(30)[20:]...)) {
		t.Error(want[:20])
	}
}

// P3.2 with R4: what Out answers shares no memory with the sink, or with another answer.
func TestOutNewMemory(t *testing.T) {
	k := new(block.Sink)
	k.Put(numbered(100))
	one := k.Out()
	two := k.Out()
	clear(one[:cap(one)])
	_ = append(one, 'x')
	if !bytes.Equal(two, numbered(100)) {
		t.Error("answers share their memory")
	}
	k.Put([]byte("y"))
	clear(one[:cap(one)])
	holds(t, k, append(numbered(100), 'y'))
	if !bytes.Equal(two, numbered(100)) {
		t.Error("an answer is changed by what is put behind it")
	}
}

// P3.2 with R5: sinks do not touch each other.
func TestSinksApart(t *testing.T) {
	one, two := new(block.Sink), new(block.Sink)
	one.Put([]byte("a"))
	two.Put([]byte("bb"))
	one.Put([]byte("c"))
	holds(t, one, []byte("ac"))
	holds(t, two, []byte("bb"))
}

// P3.1, P3.2: what a sink was given, a source reads.
func TestSinkToSource(t *testing.T) {
	for _, chunks := range chunkings {
		k := new(block.Sink)
		k.Put(numbered(512))
		k.Body(numbered(700))
		k.Body(nil)
		k.Body(numbered(1))
		k.End()
		p := newPair(t, k.Out(), chunks)
		p.block()
		p.body(700)
		p.body(0)
		p.body(1)
		if !p.got.Rest() {
			t.Error("End is not of bytes 0")
		}
		p.block()
		p.block()
		if _, e := p.got.Block(); e != api.ErrNone {
			t.Error(e)
		}
	}
}
