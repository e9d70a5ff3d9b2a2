package block

import (
	"bindle/api"
)

// reader reads bytes by chunks.
type reader struct {
	all    []byte
	at     int // how many of them were read
	chunks []int
	turn   int // which chunk is next
}

// left is what was not read yet; it is not to be handed out.
func (r *reader) left() []byte {
	return r.all[r.at:]
}

// read answers the next n bytes, in new memory; ErrShort, if there are fewer, and these are read then.
func (r *reader) read(n int) ([]byte, api.Errno) {
	// Room for no more than there is: n may be far above it.
	b := make([]byte, 0, min(n, len(r.left())))
	for len(b) < n {
		piece := r.piece(n - len(b))
		if len(piece) == 0 {
			return nil, api.ErrShort
		}
		b = append(b, piece...)
	}
	return b, api.OK
}

// piece reads, of the bytes that are asked for, those that the next chunk lets through; none, if none are left.
func (r *reader) piece(asked int) []byte {
	piece := r.left()
	piece = piece[:min(r.chunk(asked), len(piece))]
	r.at += len(piece)
	return piece
}

// chunk is how many of the bytes that are asked for may come at a time.
func (r *reader) chunk(asked int) int {
	if len(r.chunks) == 0 {
		return asked
	}
	chunk := max(r.chunks[r.turn], 1)
	r.turn = (r.turn + 1) % len(r.chunks)
	return min(chunk, asked)
}
