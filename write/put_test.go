package write_test

import (
	"bytes"
	"math"
	"slices"
	"strings"
	"testing"

	"bindle/api"
	"bindle/write"
)

// joined are lists of bytes, one behind the other.
func joined(list ...[]byte) []byte {
	return bytes.Join(list, nil)
}

// P9.1: members without records: a header, and of a file its body.
func TestPut(t *testing.T) {
	meta := api.Meta{Mode: 0o644, UID: 1000, GID: 50, Time: 1234567890}
	puts(t, api.Member{Path: "a", Kind: api.File}, header('0', "a", 0, "", api.Meta{}, 0))
	puts(t, api.Member{Path: "a/b", Kind: api.File, Meta: meta, Body: []byte("abc")}, joined(header('0', "a/b", 0, "", meta, 3), padded([]byte("abc"))))
	puts(t, api.Member{Path: "h", Target: "a/b", Kind: api.Hard, Meta: meta}, header('1', "h", 0, "a/b", meta, 0))
	puts(t, api.Member{Path: "s", Target: "/../x//", Kind: api.Sym, Meta: meta}, header('2', "s", 0, "/../x//", meta, 0))
	puts(t, api.Member{Path: "d", Kind: api.Dir, Meta: meta}, header('5', "d", 0, "", meta, 0))
}

// P9.1: a header's bytes by their places.
func TestPutPlaces(t *testing.T) {
	b, e := write.Put(api.Member{Path: "a", Target: "t", Kind: api.Sym, Meta: api.Meta{Mode: 1, UID: 2, GID: 3, Time: 4}})
	if e != api.OK || len(b) != 512 {
		t.Fatal(e, len(b))
	}
	want := "a" + strings.Repeat("\x00", 99) + "0000001\x000000002\x000000003\x0000000000000\x0000000000004\x00"
	if string(b[:148]) != want || string(b[156:159]) != "2t\x00" || string(b[257:265]) != "ustar\x0000" {
		t.Errorf("%q", b)
	}
}

// P9.1: bodies of all sizes about whole blocks, up to the greatest; bytes 0 stand in them, too.
func TestPutBody(t *testing.T) {
	for _, n := range []int{0, 1, 511, 512, 513, 1023, 1024, 1025, 100000, api.MaxBody - 1, api.MaxBody} {
		for _, fill := range []string{"z", "\x00", "\xff"} {
			m := api.Member{Path: "a", Kind: api.File, Body: bytes.Repeat([]byte(fill), n)}
			puts(t, m, joined(header('0', "a", 0, "", api.Meta{}, n), padded(m.Body)))
		}
	}
	for _, body := range [][]byte{nil, {}, make([]byte, 0, 10)} {
		puts(t, api.Member{Path: "a", Kind: api.Dir, Body: body}, header('5', "a", 0, "", api.Meta{}, 0))
	}
}

// P9.1: paths that can be cut have no record; those that can't be, or have a byte above 127, have one.
func TestPutPath(t *testing.T) {
	s := strings.Repeat
	for _, x := range []struct {
		path string
		cut  int
	}{
		{"@long", 0}, {"\x01\x7f\n =", 0}, {s("n", 100), 0}, {"p/" + s("n", 98), 0}, {"p/" + s("n", 99), 1}, {"p/" + s("n", 100), 1},
		{s("p", 155) + "/" + s("n", 44), 155}, {s("p", 50) + "/" + s("q", 60) + "/" + s("n", 80), 111}, {s("p", 50) + "/" + s("q", 49) + "/" + s("n", 50), 50},
	} {
		puts(t, api.Member{Path: x.path, Kind: api.File}, header('0', x.path, x.cut, "", api.Meta{}, 0))
	}
	for _, x := range []struct{ path, line string }{
		{"\u0080", "11 path=\u0080\n"}, {"a/\u00e9", "13 path=a/\u00e9\n"}, {"\u00e9a", "12 path=\u00e9a\n"}, {"\U0010ffff", "13 path=\U0010ffff\n"},
		{s("n", 101), "111 path=" + s("n", 101) + "\n"}, {s("n", 200), "210 path=" + s("n", 200) + "\n"}, {"p/" + s("n", 101), "113 path=p/" + s("n", 101) + "\n"},
		{s("p", 156) + "/" + s("n", 43), "210 path=" + s("p", 156) + "/" + s("n", 43) + "\n"},
		{s("p", 100) + "/\u00e9", "113 path=" + s("p", 100) + "/\u00e9\n"}, {"\u00e9\nb=c", "15 path=\u00e9\nb=c\n"},
	} {
		puts(t, api.Member{Path: x.path, Kind: api.Dir}, joined(pax(x.line), header('5', "@long", 0, "", api.Meta{}, 0)))
	}
}

// P9.1: targets of at most 100 bytes have no record, wherever they have a /; longer ones, and those that have a byte above 127, have one.
func TestPutTarget(t *testing.T) {
	s := strings.Repeat
	for _, target := range []string{"@long", "t", "\x01\x7f\n =", s("t", 99), s("t", 100), "t/" + s("t", 98)} {
		for _, kind := range []byte{api.Hard, api.Sym} {
			puts(t, api.Member{Path: "a", Target: target, Kind: kind}, header(kind, "a", 0, target, api.Meta{}, 0))
		}
	}
	for _, x := range []struct{ target, line string }{
		{"\u0080", "15 linkpath=\u0080\n"}, {"t/\u00e9", "17 linkpath=t/\u00e9\n"}, {"\U0010ffff", "17 linkpath=\U0010ffff\n"},
		{s("t", 101), "115 linkpath=" + s("t", 101) + "\n"}, {s("t", 200), "214 linkpath=" + s("t", 200) + "\n"}, {"p/" + s("t", 99), "115 linkpath=p/" + s("t", 99) + "\n"},
		{s("t", 99) + "\u00e9", "115 linkpath=" + s("t", 99) + "\u00e9\n"},
	} {
		for _, kind := range []byte{api.Hard, api.Sym} {
			puts(t, api.Member{Path: "a", Target: x.target, Kind: kind}, joined(pax(x.line), header(kind, "a", 0, "@long", api.Meta{}, 0)))
		}
	}
}

// P9.1: a byte above 127, wherever it is, and of whichever rune.
func TestPutRunes(t *testing.T) {
	for r := rune(1); r < 0x400; r++ {
		m := api.Member{Path: "a" + string(r) + "b", Target: "t" + string(r), Kind: api.Sym}
		want := header('2', m.Path, 0, m.Target, api.Meta{}, 0)
		if r >= 128 {
			want = joined(pax("13 path="+m.Path+"\n", "16 linkpath="+m.Target+"\n"), header('2', "@long", 0, "@long", api.Meta{}, 0))
		}
		puts(t, m, want)
	}
	for at := range 99 {
		name := strings.Repeat("n", at) + "\u00ff" + strings.Repeat("n", 98-at)
		want := joined(pax("110 path="+name+"\n"), header('5', "@long", 0, "", api.Meta{}, 0))
		puts(t, api.Member{Path: name, Kind: api.Dir}, want)
		want = joined(pax("114 linkpath="+name+"\n"), header('1', "a", 0, "@long", api.Meta{}, 0))
		puts(t, api.Member{Path: "a", Target: name, Kind: api.Hard}, want)
	}
}

// P9.1: each number at the bound of its field; in the header it is 0 then, and the others are as they are.
func TestPutNumbers(t *testing.T) {
	plain := api.Meta{Mode: 0o7777, UID: 2097151, GID: 2097151, Time: 8589934591}
	for _, x := range []struct {
		of   func(m *api.Meta) *int
		n    int
		line string
	}{
		{func(m *api.Meta) *int { return &m.UID }, 2097152, "15 uid=2097152\n"},
		{func(m *api.Meta) *int { return &m.UID }, 2147483647, "18 uid=2147483647\n"},
		{func(m *api.Meta) *int { return &m.GID }, 2097152, "15 gid=2097152\n"},
		{func(m *api.Meta) *int { return &m.GID }, 10000000, "16 gid=10000000\n"},
		{func(m *api.Meta) *int { return &m.Time }, 8589934592, "20 mtime=8589934592\n"},
		{func(m *api.Meta) *int { return &m.Time }, 1 << 40, "23 mtime=1099511627776\n"},
	} {
		for _, kind := range kinds {
			m, name := api.Member{Path: "a", Kind: kind, Meta: plain}, ""
			if kind == api.Hard || kind == api.Sym {
				m.Target, name = "t", "t"
			}
			puts(t, m, header(kind, "a", 0, name, plain, 0))
			rest := plain
			*x.of(&m.Meta), *x.of(&rest) = x.n, 0
			puts(t, m, joined(pax(x.line), header(kind, "a", 0, name, rest, 0)))
		}
	}
}

// P9.1: all records at once, in their order; the most that there may be are one block.
func TestPutAll(t *testing.T) {
	m := api.Member{Path: strings.Repeat("n", 200), Target: strings.Repeat("t", 200), Kind: api.Sym, Meta: api.Meta{Mode: 4095, UID: 1<<31 - 1, GID: 1<<31 - 2, Time: 1 << 40}}
	lines := []string{"210 path=" + m.Path + "\n", "214 linkpath=" + m.Target + "\n", "18 uid=2147483647\n", "18 gid=2147483646\n", "23 mtime=1099511627776\n"}
	want := joined(pax(lines...), header('2', "@long", 0, "@long", api.Meta{Mode: 4095}, 0))
	if len(want) != 3*512 {
		t.Fatal(len(want))
	}
	puts(t, m, want)
	m = api.Member{Path: "\u00e9", Kind: api.File, Meta: api.Meta{GID: 1 << 21}, Body: []byte("b")}
	puts(t, m, joined(pax("11 path=\u00e9\n", "15 gid=2097152\n"), header('0', "@long", 0, "", api.Meta{}, 1), padded(m.Body)))
}

// wrong are members that are not good.
func wrong() []api.Member {
	list := []api.Member{{}, {Path: "a"}, {Kind: api.File}, {Path: "a", Kind: 0xff}, {Path: "a", Kind: '7'}, {Path: "a", Kind: 'x'}, {Path: "a", Kind: 1}}
	for _, path := range []string{"", "/", "/a", "a/", "./a", "a//b", "a/../b", "..", ".", "\x00", "a\xff", "\xc0\x80", "\xed\xa0\x80", strings.Repeat("n", 201)} {
		for _, kind := range kinds {
			list = append(list, api.Member{Path: path, Kind: kind}, api.Member{Path: path, Target: "t", Kind: kind})
		}
		list = append(list, api.Member{Path: "a", Target: path, Kind: api.Hard})
	}
	for _, target := range []string{"", "\x00", "t\xff", "\xed\xa0\x80", strings.Repeat("t", 201)} {
		list = append(list, api.Member{Path: "a", Target: target, Kind: api.Sym})
	}
	for _, meta := range []api.Meta{
		{Mode: -1}, {Mode: 4096}, {Mode: math.MinInt}, {UID: -1}, {UID: 1 << 31}, {UID: math.MaxInt}, {GID: -1}, {GID: 1 << 31}, {GID: math.MinInt}, {Time: -1}, {Time: 1<<40 + 1}, {Time: math.MaxInt},
	} {
		list = append(list, api.Member{Path: "a", Kind: api.Dir, Meta: meta}, api.Member{Path: "a", Kind: api.File, Meta: meta})
	}
	return append(list,
		api.Member{Path: "a", Target: "t", Kind: api.File}, api.Member{Path: "a", Target: "t", Kind: api.Dir}, api.Member{Path: "a", Kind: api.Dir, Body: []byte("x")},
		api.Member{Path: "a", Target: "t", Kind: api.Hard, Body: []byte("x")}, api.Member{Path: "a", Target: "t", Kind: api.Sym, Body: []byte("x")}, api.Member{Path: "a", Kind: api.File, Body: make([]byte, api.MaxBody+1)},
	)
}

// P9.1, P9.2: members that are not good.
func TestRefused(t *testing.T) {
	for _, m := range wrong() {
		refuses(t, m)
	}
}

// P9.1 with R4: what is handed in is not changed, spare room included, and not kept; each answer is new memory.
func TestPutMemory(t *testing.T) {
	room := []byte("abcdef")
	m := api.Member{Path: strings.Repeat("n", 200), Kind: api.File, Meta: api.Meta{UID: 1 << 22}, Body: room[:3]}
	one, _ := write.Put(m)
	two, _ := write.Put(m)
	want := model(m)
	if string(room) != "abcdef" || len(m.Body) != 3 {
		t.Errorf("changed: %q", room)
	}
	_ = append(one, "xyz"...)
	clear(one[:cap(one)])
	if string(room) != "abcdef" {
		t.Errorf("changed by what was answered: %q", room)
	}
	copy(room, "123456")
	if !bytes.Equal(two, want) {
		t.Error("an answer is changed by the body, or by another answer")
	}
	plain := api.Member{Path: "a", Kind: api.File, Body: slices.Repeat([]byte("b"), 512)}
	one, _ = write.Put(plain)
	clear(one)
	if plain.Body[0] != 'b' {
		t.Error("a whole block is not copied")
	}
}
