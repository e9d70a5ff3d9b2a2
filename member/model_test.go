package member_test

import (
	"bytes"
	"strings"
	"testing"

	"bindle/api"
	"bindle/attr"
	"bindle/head"
	"bindle/path"
	"bindle/record"
)

// model is Read once more, over places in the whole list.
type model struct {
	b       []byte
	at      int
	members []api.Member
	global  []api.Record
	own     []api.Record
	texts   map[byte]string
	waiting string // which kinds wait
}

// modelRead is what the model reads.
func modelRead(b []byte) ([]api.Member, api.Fault) {
	m := model{b: b, texts: map[byte]string{}}
	for {
		at := m.at
		if len(b)-at < 512 {
			return nil, api.Fault{E: api.ErrShort, At: at}
		}
		if bytes.Count(b[at:at+512], []byte{0}) == 512 {
			if e := m.end(); e != api.OK {
				return nil, api.Fault{E: e, At: at}
			}
			return m.members, api.Fault{}
		}
		if e := m.header(); e != api.OK {
			return nil, api.Fault{E: e, At: at}
		}
	}
}

func (m *model) end() api.Errno {
	switch rest := m.b[m.at+512:]; {
	case len(rest) < 512:
		return api.ErrShort
	case bytes.Count(rest, []byte{0}) != len(rest):
		return api.ErrText
	case m.waiting != "":
		return api.ErrRecord
	}
	return api.OK
}

func (m *model) header() api.Errno {
	h, e := head.Parse(m.b[m.at : m.at+512])
	m.at += 512
	if e != api.OK {
		return e
	}
	if strings.IndexByte("xgLK", h.Kind) >= 0 {
		return m.extension(h)
	}
	return m.member(h)
}

// body is what stands at the place, from there on m.at is behind it; false, if it is not there.
func (m *model) body(n int) ([]byte, bool) {
	whole := n
	for whole%512 != 0 {
		whole++
	}
	if whole > len(m.b)-m.at {
		return nil, false
	}
	m.at += whole
	return m.b[m.at-whole:][:n], true
}

func (m *model) extension(h api.Head) api.Errno {
	if strings.IndexByte(m.waiting, h.Kind) >= 0 {
		return api.ErrRecord
	}
	if h.Size > 1048576 {
		return api.ErrLarge
	}
	b, ok := m.body(h.Size)
	if !ok {
		return api.ErrShort
	}
	list, e := record.Parse(b)
	switch h.Kind {
	case 'x':
		m.own = list
	case 'g':
		m.global = append(m.global, list...)
	default:
		e = api.OK
		m.texts[h.Kind] = strings.Split(string(b), "\x00")[0]
	}
	if h.Kind != 'g' {
		m.waiting += string(rune(h.Kind))
	}
	return e
}

func (m *model) member(h api.Head) api.Errno {
	if len(m.members) >= 4096 {
		return api.ErrLarge
	}
	if h.Kind != '0' && h.Kind != '1' && h.Kind != '2' && h.Kind != '5' {
		return api.ErrType
	}
	if strings.Contains(m.waiting, "L") {
		h.Name = m.texts['L']
	}
	if strings.Contains(m.waiting, "K") {
		h.Link = m.texts['K']
	}
	state := new(attr.State)
	state.Global(m.global...)
	h, e := state.Apply(h, m.own...)
	if e != api.OK {
		return e
	}
	name, e := path.Clean(h.Name)
	if e != api.OK {
		return e
	}
	if h.Meta.Mode > 4095 || h.Meta.UID > 2147483647 || h.Meta.GID > 2147483647 || h.Meta.Time > 1099511627776 {
		return api.ErrNumber
	}
	goal := ""
	switch h.Kind {
	case '1':
		goal, e = path.Clean(h.Link)
	case '2':
		goal, e = h.Link, path.Target(h.Link)
	}
	if e != api.OK {
		return e
	}
	return m.add(api.Member{Path: name, Target: goal, Kind: h.Kind, Meta: h.Meta}, h.Size)
}

func (m *model) add(one api.Member, size int) api.Errno {
	if one.Kind != '0' && size > 0 {
		return api.ErrNumber
	}
	if size > 1048576 {
		return api.ErrLarge
	}
	b, ok := m.body(size)
	if !ok {
		return api.ErrShort
	}
	one.Body = b
	m.members = append(m.members, one)
	m.own, m.waiting = nil, ""
	return api.OK
}

// agrees holds Read against the model.
func agrees(t *testing.T, b []byte, chunks ...[]int) api.Fault {
	t.Helper()
	want, fault := modelRead(b)
	answers(t, b, want, fault, append(chunks, nil)...)
	return fault
}

// pieces are what archives are made of, right and wrong.
func pieces() [][]byte {
	return list(
		file("a"), with(api.Head{Name: "./b", Kind: api.File}, "body"), header(api.Head{Name: "h", Link: "a", Kind: api.Hard}),
		extension('x', records("uid", "1")), extension('g', records("uid", "2", "gid", "3")), extension('L', "name"), extension('K', "link\x00z"), extension('x', ""),
		make([]byte, 512), header(api.Head{Name: "s", Kind: api.Sym}), header(api.Head{Name: "d", Kind: api.Dir, Size: 1}), header(api.Head{Name: "g", Kind: '7'}), []byte("short"),
	)
}

// P8.2: all short lists of pieces, with and without an end, against the model.
func TestReadModel(t *testing.T) {
	all := pieces()
	seen := map[api.Errno]int{}
	var more func(b []byte, left int)
	more = func(b []byte, left int) {
		seen[agrees(t, b).E]++
		seen[agrees(t, archive(b)).E]++
		if left > 0 {
			for _, piece := range all {
				more(open(b, piece), left-1)
			}
		}
	}
	more(nil, 4)
	for _, e := range []api.Errno{api.OK, api.ErrShort, api.ErrSum, api.ErrNumber, api.ErrRecord, api.ErrPath, api.ErrType, api.ErrText} {
		if seen[e] == 0 {
			t.Errorf("no archive with %d", e)
		}
	}
}

// P8.2: each byte of an archive's headers changed, with the sum as it was, and as it is then, against the model.
func TestReadEachByte(t *testing.T) {
	b := archive(extension('g', records("uid", "5")), extension('L', "n"), extension('x', records("k", "v")), with(api.Head{Name: "a", Kind: api.File, Size: 3}, "abc"), header(api.Head{Name: "s", Link: "l", Kind: api.Sym}))
	for i := range b {
		for _, c := range []byte{1, 0x80, '/'} {
			x := bytes.Clone(b)
			x[i] ^= c
			agrees(t, x, []int{1000, 7})
			signed(x[i/512*512:][:512])
			agrees(t, x)
		}
	}
}

// P8.2: long lists of pieces, with bytes changed here and there, against the model.
func TestReadMixed(t *testing.T) {
	seed := uint32(8)
	next := func(n int) int {
		seed = seed*1664525 + 1013904223
		return int(seed>>8) % n
	}
	all := append(pieces()[:7], extension('x', records("path", "p/./q", "size", "4", "linkpath", "z")), extension('g', records("mtime", "9.5", "path", "")), extension('g', records("uid", "")))
	for range 5000 {
		var b []byte
		for range next(12) {
			b = append(b, all[next(len(all))]...)
		}
		b = archive(b, make([]byte, next(2)*next(1000)))
		if next(3) == 0 {
			b[next(len(b))] ^= byte(next(256))
		}
		agrees(t, b[:len(b)-next(2)*next(2)*next(len(b))], chunkings[next(len(chunkings))])
	}
}
