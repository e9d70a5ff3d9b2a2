package member

import (
	"bytes"

	"bindle/api"
	"bindle/attr"
	"bindle/block"
	"bindle/head"
	"bindle/record"
)

// Kinds of extensions.
const (
	ownRecords    = 'x'
	globalRecords = 'g'
	longName      = 'L'
	longLink      = 'K'
)

// extension is what an extension says of the next member.
type extension struct {
	text    string // of L and K
	records []api.Record
}

// reader reads an archive's members.
type reader struct {
	*block.Source
	*attr.State
	// Which extensions wait for a member, by their kinds: one that says nothing waits, too.
	waits map[byte]extension
	list  []api.Member
}

func newReader(b []byte, chunks []int) *reader {
	return &reader{Source: block.New(b, chunks), State: new(attr.State), waits: map[byte]extension{}}
}

// next reads a header, and what belongs to it; false at the archive's end.
func (r *reader) next() (bool, api.Errno) {
	b, e := r.Block()
	if e != api.OK {
		// To the source it is no error that nothing is left.
		return false, api.ErrShort
	}
	if head.Zero(b) {
		return false, r.end()
	}
	h, e := head.Parse(b)
	if e != api.OK {
		return false, e
	}
	switch h.Kind {
	case ownRecords, globalRecords, longName, longLink:
		return true, r.extend(h)
	}
	return true, r.add(h)
}

// end reads what is behind the first block of the archive's end.
func (r *reader) end() api.Errno {
	b, e := r.Block()
	if e != api.OK {
		return api.ErrShort
	}
	if !head.Zero(b) || !r.Rest() {
		return api.ErrText
	}
	if len(r.waits) > 0 {
		return api.ErrRecord
	}
	return api.OK
}

// extend reads an extension's body; what it says waits, if it is not global.
func (r *reader) extend(h api.Head) api.Errno {
	if _, waits := r.waits[h.Kind]; waits {
		return api.ErrRecord
	}
	if h.Size > api.MaxBody {
		return api.ErrLarge
	}
	b, e := r.Body(h.Size)
	if e != api.OK {
		return e
	}
	if h.Kind == longName || h.Kind == longLink {
		text, _, _ := bytes.Cut(b, []byte{0})
		r.waits[h.Kind] = extension{text: string(text)}
		return api.OK
	}
	list, e := record.Parse(b)
	if e != api.OK {
		return e
	}
	if h.Kind == globalRecords {
		r.Global(list...)
		return api.OK
	}
	r.waits[h.Kind] = extension{records: list}
	return api.OK
}

// add reads a member's body; nothing waits for another one then.
func (r *reader) add(h api.Head) api.Errno {
	if len(r.list) == api.MaxItems {
		return api.ErrLarge
	}
	if !known(h.Kind) {
		return api.ErrType
	}
	h, e := r.Apply(r.renamed(h), r.waits[ownRecords].records...)
	if e != api.OK {
		return e
	}
	m, e := fromHead(h)
	if e != api.OK {
		return e
	}
	m.Body, e = r.Body(h.Size)
	if e != api.OK {
		return e
	}
	r.list = append(r.list, m)
	clear(r.waits)
	return api.OK
}

// renamed is a head with the texts that wait for it.
func (r *reader) renamed(h api.Head) api.Head {
	if name, waits := r.waits[longName]; waits {
		h.Name = name.text
	}
	if link, waits := r.waits[longLink]; waits {
		h.Link = link.text
	}
	return h
}
