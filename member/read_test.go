package member_test

import (
	"bytes"
	"slices"
	"strings"
	"testing"

	"bindle/api"
	"bindle/member"
)

// list makes parts of an archive a list.
func list(parts ...[]byte) [][]byte {
	return parts
}

// P8.2: the chapter's example, and more bytes 0 behind the end.
func TestReadNothing(t *testing.T) {
	reads(t, nil)
	for _, n := range []int{0, 1, 511, 512, 513, 10240} {
		reads(t, list(make([]byte, n)))
		reads(t, list(file("a"), make([]byte, n)), isFile("a"))
	}
}

// P8.2: a member of each kind, with all that it may have.
func TestReadKinds(t *testing.T) {
	meta := api.Meta{Mode: 0o755, UID: 1000, GID: 100, Time: 1700000000}
	reads(t, list(
		with(api.Head{Name: "./f//", Link: "of no use", Kind: api.File, Meta: meta}, "abc"),
		header(api.Head{Name: "h", Link: "./f/.", Kind: api.Hard, Meta: meta}),
		header(api.Head{Name: "s", Link: "/../x//", Kind: api.Sym, Meta: meta}),
		header(api.Head{Name: "d/", Link: "/..", Kind: api.Dir, Meta: meta}),
	),
		api.Member{Path: "f", Kind: api.File, Meta: meta, Body: []byte("abc")},
		api.Member{Path: "h", Target: "f", Kind: api.Hard, Meta: meta},
		api.Member{Path: "s", Target: "/../x//", Kind: api.Sym, Meta: meta},
		api.Member{Path: "d", Kind: api.Dir, Meta: meta},
	)
}

// P8.2: headers of other forms: of no kind, with a prefix, of GNU.
func TestReadForms(t *testing.T) {
	ahead, behind := strings.Repeat("p", 90), strings.Repeat("q", 90)
	long := api.Head{Name: ahead + "/" + behind, Kind: api.File}
	reads(t, list(changed(api.Head{Name: "old", Kind: api.File}, 156, "\x00")), isFile("old"))
	reads(t, list(header(long)), isFile(long.Name))
	reads(t, list(changed(long, 257, "ustar  \x00")), isFile(behind))
}

// P8.2: what a path is there for, or where a link goes, is another layer's matter.
func TestReadAnyTree(t *testing.T) {
	reads(t, list(file("a"), file("a"), header(api.Head{Name: "a", Link: "a", Kind: api.Hard}), header(api.Head{Name: "a/b", Link: "none", Kind: api.Hard})),
		isFile("a"), isFile("a"), api.Member{Path: "a", Target: "a", Kind: api.Hard}, api.Member{Path: "a/b", Target: "none", Kind: api.Hard})
}

// P8.2: bodies of all sizes, which may look like headers, or an end.
func TestReadBody(t *testing.T) {
	for _, n := range []int{0, 1, 2, 511, 512, 513, 1023, 1024, 1025, 5000} {
		text := strings.Repeat("b", n)
		reads(t, list(with(api.Head{Name: "a", Kind: api.File}, text), file("z")),
			api.Member{Path: "a", Kind: api.File, Body: []byte(text)}, isFile("z"))
	}
	for _, text := range []string{string(make([]byte, 1024)), string(make([]byte, 1536)), string(archive(file("x"))), string(extension('x', "5 k=\n"))} {
		reads(t, list(with(api.Head{Name: "a", Kind: api.File}, text), file("z")),
			api.Member{Path: "a", Kind: api.File, Body: []byte(text)}, isFile("z"))
	}
}

// P8.2: what stands behind a body in its last block may be anything.
func TestReadPadding(t *testing.T) {
	x := with(api.Head{Name: "a", Kind: api.File}, "abc")
	copy(x[515:], bytes.Repeat([]byte("z"), 509))
	l := extension('L', "n")
	copy(l[513:], bytes.Repeat([]byte("z"), 511))
	r := extension('x', records("uid", "1"))
	copy(r[1000:], "z")
	reads(t, list(x, l, r, file("b")), api.Member{Path: "a", Kind: api.File, Body: []byte("abc")}, api.Member{Path: "n", Kind: api.File, Meta: api.Meta{UID: 1}})
}

// P8.2: the largest body, and the largest extensions.
func TestReadLargest(t *testing.T) {
	text := strings.Repeat("t", api.MaxBody)
	many := strings.Repeat(records("k", strings.Repeat("v", 1016)), 1024)
	if len(many) != api.MaxBody {
		t.Fatal(len(many))
	}
	b := archive(with(api.Head{Name: "a", Kind: api.File}, text), extension('x', many), extension('g', many), extension('L', "n\x00"+text[2:]), extension('K', "l\x00"+text[2:]), header(api.Head{Name: "h", Kind: api.Hard}))
	answers(t, b, []api.Member{{Path: "a", Kind: api.File, Body: []byte(text)}, {Path: "n", Target: "l", Kind: api.Hard}}, api.Fault{}, chunkings...)
}

// P8.2: own records are the next member's alone; a wrong order of fields, unknown keys and empty lists do nothing.
func TestReadOwn(t *testing.T) {
	all := records("k", "v", "path", "p/./q", "linkpath", "l//m", "uid", "1", "gid", "2", "mtime", "3.9", "size", "0", "path", "p/q/")
	reads(t, list(extension('x', all), header(api.Head{Name: "a", Link: "b", Kind: api.Hard, Meta: api.Meta{Mode: 7}, Size: 9}), file("z")),
		api.Member{Path: "p/q", Target: "l/m", Kind: api.Hard, Meta: api.Meta{Mode: 7, UID: 1, GID: 2, Time: 3}}, isFile("z"))
	reads(t, list(extension('x', ""), file("a"), extension('x', records("uid", "")), file("b")), isFile("a"), isFile("b"))
	reads(t, list(extension('x', records("size", "3")), file("a"), body("abc"), file("b")),
		api.Member{Path: "a", Kind: api.File, Body: []byte("abc")}, isFile("b"))
	reads(t, list(extension('x', records("size", "3")), header(api.Head{Name: "a", Kind: api.File, Size: 3000}), body("abc"), file("b")),
		api.Member{Path: "a", Kind: api.File, Body: []byte("abc")}, isFile("b"))
	long := strings.Repeat("p", 150)
	reads(t, list(extension('x', records("path", long, "linkpath", long)), header(api.Head{Name: "a", Kind: api.Sym})),
		api.Member{Path: long, Target: long, Kind: api.Sym})
}

// P8.2: global records are for all members from then on, behind own ones; they change no extension.
func TestReadGlobal(t *testing.T) {
	uid := func(name string, n int) api.Member {
		return api.Member{Path: name, Kind: api.File, Meta: api.Meta{UID: n}}
	}
	reads(t, list(
		file("a"),
		extension('g', records("uid", "5", "k", "v")), file("b"), file("c"),
		extension('x', records("uid", "6")), file("d"), file("e"),
		extension('x', records("uid", "")), file("f"),
		extension('g', ""), file("g"),
		extension('g', records("uid", "7")), extension('g', records("uid", "8")), file("h"),
		extension('x', records("gid", "0")), extension('g', records("uid", "9")), extension('L', "i"), extension('g', records("gid", "4")), file("-"),
		extension('g', records("uid", "", "gid", "")), file("j"),
	), uid("a", 0), uid("b", 5), uid("c", 5), uid("d", 6), uid("e", 5), uid("f", 0), uid("g", 5), uid("h", 8), uid("i", 9), uid("j", 0))
	reads(t, list(
		extension('g', records("path", "p", "size", "3", "linkpath", "l")), extension('L', "name"), file("a"), body("abc"),
		extension('x', records("path", "", "linkpath", "", "size", "0")), header(api.Head{Name: "h", Link: "i", Kind: api.Hard}),
	), api.Member{Path: "p", Kind: api.File, Body: []byte("abc")}, api.Member{Path: "h", Target: "i", Kind: api.Hard})
}

// P8.2: global records may be the last ones.
func TestReadGlobalLast(t *testing.T) {
	reads(t, list(extension('g', records("uid", "5"))))
	reads(t, list(file("a"), extension('g', records("uid", "x")), extension('g', "")), isFile("a"))
}

// P8.2: GNU's names and links: up to a byte 0 or all, of the next member alone, and records are ahead of them.
func TestReadLong(t *testing.T) {
	long := strings.Repeat("n", 150)
	for _, behind := range []string{"", "\x00", "\x00\x00", "\x00x", "\x00" + strings.Repeat("y", 600)} {
		reads(t, list(extension('L', long+behind), extension('K', "./l"+behind), header(api.Head{Name: "a", Link: "b", Kind: api.Hard}), file("z")),
			api.Member{Path: long, Target: "l", Kind: api.Hard}, isFile("z"))
	}
	sym := header(api.Head{Name: "a", Link: "b", Kind: api.Sym})
	reads(t, list(extension('L', "n"), sym, extension('K', "l"), sym, sym, extension('K', "k"), extension('L', "m"), sym),
		api.Member{Path: "n", Target: "b", Kind: api.Sym}, api.Member{Path: "a", Target: "l", Kind: api.Sym},
		api.Member{Path: "a", Target: "b", Kind: api.Sym}, api.Member{Path: "m", Target: "k", Kind: api.Sym})
	reads(t, list(extension('K', "/l/"), file("a"), extension('K', ""), file("b"), extension('K', "\xff"), header(api.Head{Name: "d", Kind: api.Dir})),
		isFile("a"), isFile("b"), api.Member{Path: "d", Kind: api.Dir})
	reads(t, list(extension('L', "/"), extension('K', "\xff"), extension('x', records("path", "p", "linkpath", "q")), sym), api.Member{Path: "p", Target: "q", Kind: api.Sym})
	reads(t, list(changed(api.Head{Name: "@", Kind: 'L', Size: 1}, 257, "ustar  \x00"), body("n"), file("a")), isFile("n"))
}

// P8.2: x, L, K and g in all orders are the same.
func TestReadOrders(t *testing.T) {
	parts := list(extension('x', records("uid", "1")), extension('L', "n"), extension('K', "l"), extension('g', records("gid", "2")))
	want := api.Member{Path: "n", Target: "l", Kind: api.Hard, Meta: api.Meta{UID: 1, GID: 2}}
	for n := range 256 {
		i, j, k, l := n&3, n>>2&3, n>>4&3, n>>6
		if 1<<i|1<<j|1<<k|1<<l == 15 {
			reads(t, list(parts[i], parts[j], parts[k], parts[l], header(api.Head{Name: "a", Kind: api.Hard})), want)
		}
	}
}

// P8.2: an empty text is a Name, or a Link, too.
func TestReadEmptyText(t *testing.T) {
	for _, text := range []string{"", "\x00", "\x00a"} {
		l, k := extension('L', text), extension('K', text)
		faults(t, archive(l, file("a")), api.ErrPath, len(l))
		faults(t, archive(k, header(api.Head{Name: "a", Link: "b", Kind: api.Hard})), api.ErrPath, len(k))
		faults(t, archive(k, header(api.Head{Name: "a", Link: "b", Kind: api.Sym})), api.ErrPath, len(k))
		reads(t, list(l, extension('x', records("path", "p")), file("a")), isFile("p"))
	}
}

// P8.2 with R4: what is handed in is neither changed, spare room included, nor kept; answers are new memory.
func TestReadNewMemory(t *testing.T) {
	whole := append(archive(extension('g', records("path", "p")), with(api.Head{Name: "a", Kind: api.File}, "abc"), with(api.Head{Name: "a", Kind: api.File}, "defg")), "room"...)
	was, chunks := bytes.Clone(whole), []int{5, 700, -1, 8}
	b := whole[:len(whole)-4]
	one, f := member.Read(b, chunks[:3])
	two, _ := member.Read(b, chunks[:3])
	if f.E != api.OK || !bytes.Equal(whole, was) || !slices.Equal(chunks, []int{5, 700, -1, 8}) {
		t.Errorf("changed, %v", f)
	}
	clear(whole)
	want := []api.Member{{Path: "p", Kind: api.File, Body: []byte("abc")}, {Path: "p", Kind: api.File, Body: []byte("defg")}}
	if !same(one, want) {
		t.Error("kept: " + toldAll(one))
	}
	spoil := one[0].Body[:cap(one[0].Body)]
	for i := range spoil {
		spoil[i] = 'x'
	}
	one[0].Path = "x"
	if !same(one[1:], want[1:]) || !same(two, want) {
		t.Error("answers share their memory: " + toldAll(one) + toldAll(two))
	}
	copy(whole, was)
	answers(t, b, want, api.Fault{}, chunks[:3], nil)
}

// P8.2 with R5: nothing is left from one call to another.
func TestReadAgain(t *testing.T) {
	for range 2 {
		faults(t, open(extension('g', records("uid", "5")), extension('x', records("gid", "6")), extension('L', "n")), api.ErrShort, 3072)
		reads(t, list(file("a")), isFile("a"))
		reads(t, list(extension('g', records("uid", "5")), file("a")), api.Member{Path: "a", Kind: api.File, Meta: api.Meta{UID: 5}})
	}
}
