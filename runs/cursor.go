package runs

import (
	"bindle/api"
	"bindle/rec"
	"bindle/store"
)

// Bytes that a number of an item's bytes has: short of a length, long of a Seq.
const (
	short = 4
	long  = 8
)

// Cursor: see P16.2.
type Cursor struct {
	scratch *store.Store
	run     int
	at      int // where the next item begins
}

// Open: see P16.2.
func Open(s *store.Store, run int) *Cursor {
	return &Cursor{scratch: s, run: run}
}

// Next: see P16.2.
func (c *Cursor) Next() (api.Item, bool) {
	if c == nil {
		return api.Item{}, false
	}
	// A nil store, or one without the run, has no bytes, and no bytes are no item.
	b, _ := c.scratch.Read(c.run, c.at, c.size())
	x, n, ok := rec.Get(b)
	if !ok {
		return api.Item{}, false
	}
	c.at += n
	return x, true
}

// size is how many bytes the next item has, so that no more are read; of what is no item it is any number that an item may have.
func (c *Cursor) size() int {
	seq := c.at + short + c.length(c.at, api.MaxPath)
	data := seq + long
	return data + short + c.length(data, api.MaxBody) - c.at
}

// length is the length that stands at a place, but at most the greatest that may be.
func (c *Cursor) length(at, most int) int {
	b, _ := c.scratch.Read(c.run, at, short)
	n := uint64(0)
	for _, digit := range b {
		n = n<<8 | uint64(digit)
	}
	return int(min(n, uint64(most)))
}
