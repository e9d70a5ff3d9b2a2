package head

import (
	"bytes"

	"bindle/api"
	"bindle/field"
)

// label names a field of a block.
type label int

const (
	nameField label = iota
	modeField
	userField
	groupField
	sizeField
	timeField
	sumField
	kindField
	linkField
	magicField
	prefixField
)

// How many bytes the fields of texts, and that of the sum, have.
const (
	nameWide   = 100
	sumWide    = 8
	linkWide   = 100
	prefixWide = 155
)

// part is a field: at which byte of the block it begins, and its own bytes.
type part struct {
	at  int
	own []byte
}

// parts are all fields of a block. The order in which they are gone through counts for nothing: no two have a byte together.
type parts map[label]part

// blank has all fields, of bytes 0.
func blank() parts {
	return parts{
		nameField:   {0, make([]byte, nameWide)},
		modeField:   {100, make([]byte, 8)},
		userField:   {108, make([]byte, 8)},
		groupField:  {116, make([]byte, 8)},
		sizeField:   {124, make([]byte, 12)},
		timeField:   {136, make([]byte, 12)},
		sumField:    {148, make([]byte, sumWide)},
		kindField:   {156, make([]byte, 1)},
		linkField:   {157, make([]byte, linkWide)},
		magicField:  {257, make([]byte, 8)},
		prefixField: {345, make([]byte, prefixWide)},
	}
}

// read has the fields of a block.
func read(b []byte) parts {
	p := blank()
	for _, f := range p {
		copy(f.own, b[f.at:])
	}
	return p
}

// block is a block of these fields; all else is bytes 0.
func (p parts) block() []byte {
	b := make([]byte, api.Block)
	for _, f := range p {
		copy(b[f.at:], f.own)
	}
	return b
}

// put begins a field with a text.
func (p parts) put(l label, text string) {
	copy(p[l].own, text)
}

// text is what a field has up to its first byte 0, or to its end.
func (p parts) text(l label) string {
	b, _, _ := bytes.Cut(p[l].own, []byte{0})
	return string(b)
}

// name is the whole name, of which a GNU block has no part in the prefix.
func (p parts) name(gnu bool) string {
	prefix := p.text(prefixField)
	if prefix == "" || gnu {
		return p.text(nameField)
	}
	return prefix + "/" + p.text(nameField)
}

// kind is the kind's byte; old archives have a byte 0 for files.
func (p parts) kind() byte {
	if kind := p[kindField].own[0]; kind != 0 {
		return kind
	}
	return api.File
}

// sum is the sum of a block that has these fields: the sum field counts as blanks.
func (p parts) sum(b []byte) int {
	own := p[sumField].own
	return total(b) - total(own) + len(own)*' '
}

// numbers are those of the fields that have to have one; false, if one has none.
func (p parts) numbers() (map[label]int, bool) {
	numbers := make(map[label]int)
	for l := range numbersOf(api.Head{}) {
		n, ok := field.Parse(p[l].own)
		if !ok {
			return nil, false
		}
		numbers[l] = n
	}
	return numbers, true
}

// putNumbers fills the fields of a head's numbers; false, if one does not fit.
func (p parts) putNumbers(h api.Head) bool {
	for l, n := range numbersOf(h) {
		b, ok := field.Put(n, len(p[l].own))
		if !ok {
			return false
		}
		p.put(l, string(b))
	}
	return true
}

// numbersOf are a head's numbers, by their fields.
func numbersOf(h api.Head) map[label]int {
	return map[label]int{
		modeField:  h.Meta.Mode,
		userField:  h.Meta.UID,
		groupField: h.Meta.GID,
		timeField:  h.Meta.Time,
		sizeField:  h.Size,
	}
}

// total is the sum of all bytes.
func total(b []byte) int {
	n := 0
	for _, c := range b {
		n += int(c)
	}
	return n
}
