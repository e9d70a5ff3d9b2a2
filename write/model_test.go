package write_test

import (
	"bytes"
	"fmt"
	"slices"
	"strconv"
	"strings"
	"testing"

	"bindle/api"
	"bindle/member"
	"bindle/write"
)

// texts are texts by the places at which they are laid into a block.
type texts map[int]string

// block is a block of bytes 0 with magic, these texts, and its sum.
func block(list texts) []byte {
	b := make([]byte, 512)
	copy(b[257:], "ustar\x0000")
	copy(b[148:], "        ")
	for at, s := range list {
		copy(b[at:], s)
	}
	sum := 0
	for _, c := range b {
		sum += int(c)
	}
	copy(b[148:], fmt.Sprintf("%06o\x00 ", sum))
	return b
}

// header is a header's block, of a name that is cut at a byte, or (0) is not.
func header(kind byte, name string, cut int, link string, m api.Meta, size int) []byte {
	list := texts{
		0: name, 100: octal(m.Mode, 7), 108: octal(m.UID, 7), 116: octal(m.GID, 7), 124: octal(size, 11), 136: octal(m.Time, 11),
		156: string([]byte{kind}), 157: link,
	}
	if cut > 0 {
		list[0], list[345] = name[cut+1:], name[:cut]
	}
	return block(list)
}

// octal is n in so many octal digits, and a byte 0.
func octal(n, digits int) string {
	s := fmt.Sprintf("%0*o\x00", digits, n)
	if len(s) != digits+1 {
		panic(s)
	}
	return s
}

// padded is a text with bytes 0 to a whole block.
func padded(b []byte) []byte {
	b = slices.Clone(b)
	for len(b)%512 != 0 {
		b = append(b, 0)
	}
	return b
}

// pax are a header of records and these lines.
func pax(lines ...string) []byte {
	all := strings.Join(lines, "")
	return append(header('x', "@pax", 0, "", api.Meta{}, len(all)), padded([]byte(all))...)
}

// line is a record's line.
func line(key string, value any) string {
	rest := fmt.Sprintf(" %s=%v\n", key, value)
	n := len(rest) + 1
	for len(strconv.Itoa(n))+len(rest) != n {
		n++
	}
	return strconv.Itoa(n) + rest
}

// high tells whether a text has a byte above 127.
func high(s string) bool {
	return strings.IndexFunc(s, func(r rune) bool { return r >= 0x80 }) >= 0
}

// cutAt is where a name is cut: at 0 it is not; false, if it can't be.
func cutAt(name string) (int, bool) {
	if len(name) <= 100 {
		return 0, true
	}
	for at := 1; at <= 155 && at < len(name)-1; at++ {
		if name[at] == '/' && len(name)-at-1 <= 100 {
			return at, true
		}
	}
	return 0, false
}

// model is Put of a good member once more.
func model(m api.Member) []byte {
	var lines []string
	name, link, meta := m.Path, m.Target, m.Meta
	cut, ok := cutAt(name)
	if !ok || high(name) {
		lines = append(lines, line("path", name))
		name, cut = "@long", 0
	}
	if len(link) > 100 || high(link) {
		lines = append(lines, line("linkpath", link))
		link = "@long"
	}
	if meta.UID >= 1<<21 {
		lines = append(lines, line("uid", meta.UID))
		meta.UID = 0
	}
	if meta.GID >= 1<<21 {
		lines = append(lines, line("gid", meta.GID))
		meta.GID = 0
	}
	if meta.Time >= 1<<33 {
		lines = append(lines, line("mtime", meta.Time))
		meta.Time = 0
	}
	var b []byte
	if len(lines) > 0 {
		b = pax(lines...)
	}
	b = append(b, header(m.Kind, name, cut, link, meta, len(m.Body))...)
	return append(b, padded(m.Body)...)
}

// told is what a failure tells of a member.
func told(m api.Member) string {
	return fmt.Sprintf("%.250q %.250q %q %v %.20q (%d bytes)", m.Path, m.Target, m.Kind, m.Meta, m.Body, len(m.Body))
}

// toldBytes is where b begins to differ from want.
func toldBytes(b, want []byte) string {
	at := 0
	for at < min(len(b), len(want)) && b[at] == want[at] {
		at++
	}
	return fmt.Sprintf("%d bytes, want %d; at %d %.40q, want %.40q", len(b), len(want), at, b[at:], want[at:])
}

// puts expects Put to answer these bytes, Size how many they are, and that they are read as the member.
func puts(t *testing.T, m api.Member, want []byte) {
	t.Helper()
	b, e := write.Put(m)
	if e != api.OK || !bytes.Equal(b, want) {
		t.Errorf("Put(%s): %d, %s", told(m), e, toldBytes(b, want))
		return
	}
	if n := write.Size(m); n != len(want) {
		t.Errorf("Size(%s): %d, want %d", told(m), n, len(want))
	}
	list, f := member.Read(append(b, make([]byte, 1024)...), nil)
	if f.E != api.OK || len(list) != 1 || !member.Same(list[0], m) {
		t.Errorf("Put(%s) is read as %d members, %v", told(m), len(list), f)
	}
}

// refuses expects Put, Archive and Size to refuse a member.
func refuses(t *testing.T, m api.Member) {
	t.Helper()
	if b, e := write.Put(m); e != api.ErrArg || len(b) != 0 {
		t.Errorf("Put(%s): %d, %d bytes", told(m), e, len(b))
	}
	if b, e := write.Archive([]api.Member{m}); e != api.ErrArg || len(b) != 0 {
		t.Errorf("Archive of %s: %d, %d bytes", told(m), e, len(b))
	}
	if n := write.Size(m); n != 0 {
		t.Errorf("Size(%s): %d", told(m), n)
	}
}

// paths are paths that have to be in records, and that have not.
func paths() []string {
	s := strings.Repeat
	return []string{
		"a", "a/b", "@long", "@pax", "a\nb c=d", "\x7f", "\u0080", "\u00ff/a", "a/\uffff", "\U0010ffff",
		s("n", 99), s("n", 100), s("n", 101), s("n", 200), s("n", 99) + "\u00e9", "p/" + s("n", 98), "p/" + s("n", 99), "p/" + s("n", 100), "p/" + s("n", 101),
		s("p", 100) + "/n", s("p", 101) + "/n", s("p", 154) + "/" + s("n", 45), s("p", 155) + "/" + s("n", 44), s("p", 156) + "/" + s("n", 43), s("p", 99) + "/" + s("n", 100), s("p", 98) + "/" + s("n", 101),
		s("p/", 99) + "nn", s("pp/", 66) + "n", s("p", 50) + "/" + s("q", 48) + "/" + s("n", 100), s("p", 60) + "/" + s("q", 39) + "/" + s("n", 99), s("p", 155) + "/q/" + s("n", 40), s("p", 149) + "/n\u00e9/n",
	}
}

// targets are targets of a symbolic link.
func targets() []string {
	s := strings.Repeat
	return []string{
		"t", "/", "/t//", "..", "@long", "t\nt", "\x7f", "\u0080", "t\uffff\U0010ffff",
		s("t", 99), s("t", 100), s("t", 101), s("t", 200), "t/" + s("t", 98), "t/" + s("t", 99), s("t", 98) + "\u00e9", s("t", 99) + "\u00e9",
	}
}

// metas are meta data that have to be in records, and that have not.
func metas() []api.Meta {
	return []api.Meta{
		{}, {Mode: 4095, UID: 1<<21 - 1, GID: 1<<21 - 1, Time: 1<<33 - 1}, {Mode: 1, UID: 1 << 21}, {GID: 1 << 21}, {Time: 1 << 33},
		{Mode: 4095, UID: 1<<31 - 1, GID: 1<<31 - 1, Time: 1 << 40}, {UID: 1, GID: 1<<24 + 5, Time: 9999999999}, {UID: 9999999, GID: 2, Time: 3},
	}
}

// kinds are the kinds that a member may have.
var kinds = []byte{api.File, api.Hard, api.Sym, api.Dir}

// P9.1, P9.2: all kinds of paths with all targets and all meta data against the model.
func TestPutModel(t *testing.T) {
	for _, path := range paths() {
		for _, meta := range metas() {
			for _, target := range targets() {
				m := api.Member{Path: path, Target: target, Kind: api.Sym, Meta: meta}
				puts(t, m, model(m))
			}
			for _, target := range paths() {
				m := api.Member{Path: path, Target: target, Kind: api.Hard, Meta: meta}
				puts(t, m, model(m))
			}
			for _, size := range []int{0, 1, 513} {
				m := api.Member{Path: path, Kind: api.File, Meta: meta, Body: bytes.Repeat([]byte("z"), size)}
				puts(t, m, model(m))
			}
			m := api.Member{Path: path, Kind: api.Dir, Meta: meta}
			puts(t, m, model(m))
		}
	}
}
