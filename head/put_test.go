package head_test

import (
	"bytes"
	"math"
	"strings"
	"testing"

	"bindle/api"
	"bindle/head"
	"bindle/num"
)

// writes expects Put to answer these bytes, and Parse of them to be the head.
func writes(t *testing.T, h api.Head, want []byte) {
	t.Helper()
	b, ok := head.Put(h)
	if !ok || !bytes.Equal(b, want) {
		t.Errorf("%+v: %v, %q, want %q", h, ok, b, want)
		return
	}
	if got, e := head.Parse(b); got != h || e != api.OK {
		t.Errorf("%+v, %v, want %+v", got, e, h)
	}
}

// rejects expects Put to answer false, and nothing.
func rejects(t *testing.T, h api.Head) {
	t.Helper()
	if b, ok := head.Put(h); ok || len(b) != 0 {
		t.Errorf("%+v: %v, %q", h, ok, b)
	}
}

// empty are the fields of numbers that are 0, as Put writes them.
func empty() texts {
	return texts{
		atMode: "0000000\x00", atUser: "0000000\x00", atGroup: "0000000\x00",
		atSize: "00000000000\x00", atTime: "00000000000\x00", atKind: "0",
	}
}

// P4.2: all bytes of a block; the chapter's example.
func TestPut(t *testing.T) {
	writes(t, wholeHead(), putWhole())
	list := empty()
	list[atName] = "a"
	want := block(list)
	writes(t, api.Head{Name: "a", Kind: api.File}, want)
	if want[0] != 'a' || want[156] != '0' || string(want[148:156]) != octal(sum(want), 6)+"\x00 " {
		t.Errorf("%q", want)
	}
	writes(t, api.Head{Kind: api.File}, block(empty()))
}

// putWhole is the block that Put makes of wholeHead: a name of at most 100 bytes has no prefix.
func putWhole() []byte {
	list := whole()
	list[atName], list[atPrefix] = "some/dir/file", ""
	return block(list)
}

// P4.2: all kinds, but 0; they need not be the four that members have.
func TestPutKind(t *testing.T) {
	rejects(t, api.Head{Name: "a"})
	rejects(t, api.Head{})
	for c := 1; c < 256; c++ {
		list := empty()
		list[atName], list[atKind] = "a", string([]byte{byte(c)})
		writes(t, api.Head{Name: "a", Kind: byte(c)}, block(list))
	}
}

// P4.2: no block of GNU's is written.
func TestPutGNU(t *testing.T) {
	h := wholeHead()
	h.GNU = true
	rejects(t, h)
	rejects(t, api.Head{Name: "a", Kind: api.File, GNU: true})
}

// P4.2: names of all lengths, in one field or in two.
func TestPutName(t *testing.T) {
	for n := range 101 {
		list := empty()
		list[atName] = strings.Repeat("n", n)
		writes(t, api.Head{Name: list[atName], Kind: api.File}, block(list))
	}
	for _, x := range [][2]int{{1, 99}, {1, 100}, {2, 100}, {155, 1}, {100, 1}, {99, 1}, {155, 100}, {154, 99}, {50, 50}} {
		list := empty()
		list[atPrefix], list[atName] = strings.Repeat("p", x[0]), strings.Repeat("n", x[1])
		h := api.Head{Name: list[atPrefix] + "/" + list[atName], Kind: api.Dir}
		if len(h.Name) <= 100 {
			list[atName], list[atPrefix] = h.Name, ""
		}
		list[atKind] = "5"
		writes(t, h, block(list))
	}
	for _, name := range []string{
		strings.Repeat("n", 101), strings.Repeat("n", 1000), strings.Repeat("p", 156) + "/" + strings.Repeat("n", 100),
		strings.Repeat("p", 155) + "/" + strings.Repeat("n", 101), "/" + strings.Repeat("n", 100), strings.Repeat("n", 100) + "/",
		strings.Repeat("n", 155) + "/",
	} {
		rejects(t, api.Head{Name: name, Kind: api.File})
	}
}

// P4.2: names of any bytes but 0.
func TestPutNameBytes(t *testing.T) {
	for _, name := range []string{"/", "//", "/a", "a/", "../a", ".", " ", "\xff\x80", "\n", "\u00e9\u4e2d", "@long", "@pax"} {
		list := empty()
		list[atName] = name
		writes(t, api.Head{Name: name, Kind: api.File}, block(list))
	}
	list := empty()
	list[atPrefix], list[atName] = "/", strings.Repeat("/", 99)
	writes(t, api.Head{Name: "/" + "/" + strings.Repeat("/", 99), Kind: api.File}, block(list))
}

// P4.2: a byte 0 in Name or Link, wherever it is.
func TestPutByteZero(t *testing.T) {
	long := strings.Repeat("p", 100) + "/" + strings.Repeat("n", 100)
	for _, text := range []string{"\x00", "\x00a", "a\x00", "a\x00b", strings.Repeat("a", 99) + "\x00"} {
		rejects(t, api.Head{Name: text, Kind: api.File})
		rejects(t, api.Head{Name: "a", Link: text, Kind: api.Sym})
	}
	for i := range len(long) {
		b := []byte(long)
		b[i] = 0
		rejects(t, api.Head{Name: string(b), Kind: api.File})
	}
}

// P4.2: links up to 100 bytes, which are not cut.
func TestPutLink(t *testing.T) {
	for n := range 101 {
		list := empty()
		list[atName], list[atLink], list[atKind] = "a", strings.Repeat("l", n), "1"
		writes(t, api.Head{Name: "a", Link: list[atLink], Kind: api.Hard}, block(list))
	}
	for _, link := range []string{strings.Repeat("l", 101), strings.Repeat("l", 1000), strings.Repeat("p", 50) + "/" + strings.Repeat("n", 50)} {
		rejects(t, api.Head{Name: "a", Link: link, Kind: api.Hard})
	}
}

// P4.2: numbers as chapter 2 puts them into 8 and 12 bytes.
func TestPutNumbers(t *testing.T) {
	for at, wide := range numbers {
		most := 1<<(3*(wide-1)) - 1
		for n, want := range map[int]string{
			0:         octal(0, wide-1) + "\x00",
			1:         octal(1, wide-1) + "\x00",
			8:         octal(8, wide-1) + "\x00",
			0o644:     octal(0o644, wide-1) + "\x00",
			most - 1:  octal(most-1, wide-1) + "\x00",
			most:      octal(most, wide-1) + "\x00",
			most + 1:  fill(most+1, wide),
			1 << 40:   fill(1<<40, wide),
			1<<56 - 1: fill(1<<56-1, wide),
		} {
			list := empty()
			list[at], list[atName] = want, "a"
			h := withNumber(at, n)
			h.Name = "a"
			writes(t, h, block(list))
		}
	}
	for _, at := range []int{atSize, atTime} {
		for _, n := range []int{1 << 56, num.Max - 1, num.Max} {
			list := empty()
			list[at] = fill(n, 12)
			writes(t, withNumber(at, n), block(list))
		}
	}
}

// P4.2: each number that does not fit.
func TestPutWrongNumbers(t *testing.T) {
	for at, wide := range numbers {
		for _, n := range []int{-1, -8, math.MinInt, num.Max + 1, math.MaxInt} {
			rejects(t, withNumber(at, n))
		}
		if wide == 8 {
			rejects(t, withNumber(at, 1<<56))
			rejects(t, withNumber(at, num.Max))
		}
	}
}

// P4.2: the greatest sum that Put comes to has room.
func TestPutSumHigh(t *testing.T) {
	list := empty()
	list[atPrefix], list[atName], list[atLink] = strings.Repeat("\xff", 155), strings.Repeat("\xff", 100), strings.Repeat("\xff", 100)
	list[atMode], list[atUser], list[atGroup], list[atKind] = fill(1<<56-1, 8), fill(1<<56-1, 8), fill(1<<56-1, 8), "\xff"
	list[atSize], list[atTime] = fill(num.Max-1, 12), fill(num.Max-1, 12)
	writes(t, api.Head{
		Name: list[atPrefix] + "/" + list[atName], Link: list[atLink], Kind: 255, Size: num.Max - 1,
		Meta: api.Meta{Mode: 1<<56 - 1, UID: 1<<56 - 1, GID: 1<<56 - 1, Time: num.Max - 1},
	}, block(list))
}

// P4.2: whatever Put answers, Parse of it is the head; many heads, of all parts together.
func TestPutParse(t *testing.T) {
	state := uint32(1)
	pick := func(n int) int {
		state = state*1664525 + 1013904223
		return int(state>>8) % n
	}
	edges := []int{0, 1, 7, 8, 511, 2097151, 2097152, 1<<31 - 1, 1 << 33, 1 << 40, 1<<56 - 1, 1 << 56, num.Max, num.Max + 1, -1}
	text := func() string {
		b := make([]byte, pick(260))
		for i := range b {
			b[i] = "/abc\xff."[pick(6)]
			if pick(2000) == 0 {
				b[i] = 0
			}
		}
		return string(b[:pick(len(b)+1)])
	}
	put := 0
	for range 20000 {
		edge := func() int { return edges[pick(len(edges)-pick(5))] }
		h := api.Head{Name: text(), Link: text(), Kind: byte(pick(256)), Size: edge(), Meta: api.Meta{Mode: edge(), UID: edge(), GID: edge(), Time: edge()}}
		b, ok := head.Put(h)
		if ok != may(h) {
			t.Fatalf("%+v: %v", h, ok)
		}
		if !ok {
			continue
		}
		put++
		if got, e := head.Parse(b); got != h || e != api.OK {
			t.Fatalf("%+v, %v, want %+v", got, e, h)
		}
	}
	if put < 1000 {
		t.Error(put)
	}
}

// may is P4.2's list of what is not put, once more.
func may(h api.Head) bool {
	for _, n := range []int{h.Meta.Mode, h.Meta.UID, h.Meta.GID} {
		if n < 0 || n >= 1<<56 {
			return false
		}
	}
	for _, n := range []int{h.Size, h.Meta.Time} {
		if n < 0 || n > num.Max {
			return false
		}
	}
	_, _, ok := cut(h.Name)
	return ok && !h.GNU && h.Kind != 0 && len(h.Link) <= 100 && strings.Count(h.Name+h.Link, "\x00") == 0
}

// P4.2 with R4: what is answered shares no memory with another answer.
func TestPutNewMemory(t *testing.T) {
	a, _ := head.Put(wholeHead())
	for i := range a[:cap(a)] {
		a[:cap(a)][i] = 'x'
	}
	writes(t, wholeHead(), putWhole())
}

// cut is P4.2's Cut once more, by the parts between its slashes.
func cut(name string) (prefix, rest string, ok bool) {
	if len(name) <= 100 {
		return "", name, true
	}
	parts := strings.Split(name, "/")
	for i := 1; i < len(parts); i++ {
		prefix, rest = strings.Join(parts[:i], "/"), strings.Join(parts[i:], "/")
		if prefix != "" && len(prefix) <= 155 && rest != "" && len(rest) <= 100 {
			return prefix, rest, true
		}
	}
	return "", "", false
}

// cuts holds Cut of a name against what it should be.
func cuts(t *testing.T, name, prefix, rest string, want bool) {
	t.Helper()
	if p, r, ok := head.Cut(name); p != prefix || r != rest || ok != want {
		t.Errorf("Cut(%q): %q, %q, %v, want %q, %q, %v", name, p, r, ok, prefix, rest, want)
	}
}

// P4.2: Cut, by cases.
func TestCut(t *testing.T) {
	n := func(count int) string { return strings.Repeat("n", count) }
	p := func(count int) string { return strings.Repeat("p", count) }
	for _, x := range []struct {
		name, prefix, rest string
		ok                 bool
	}{
		{"", "", "", true},
		{"a", "", "a", true},
		{"a/b", "", "a/b", true},
		{"/", "", "/", true},
		{"a\x00b", "", "a\x00b", true},
		{n(100), "", n(100), true},
		{"/" + n(99), "", "/" + n(99), true},
		{n(99) + "/", "", n(99) + "/", true},
		{p(50) + "/" + n(49), "", p(50) + "/" + n(49), true},
		{p(50) + "/" + n(50), p(50), n(50), true},
		{n(101), "", "", false},
		{n(1000), "", "", false},
		{"/" + n(100), "", "", false},
		{n(100) + "/", "", "", false},
		{n(155) + "/", "", "", false},
		{"p/" + n(100), "p", n(100), true},
		{"p/" + n(99), "p", n(99), true},
		{"p/" + n(101), "", "", false},
		{p(155) + "/n", p(155), "n", true},
		{p(156) + "/n", "", "", false},
		{p(155) + "/" + n(100), p(155), n(100), true},
		{p(156) + "/" + n(100), "", "", false},
		{p(155) + "/" + n(101), "", "", false},
		{"a/b/" + n(98), "a", "b/" + n(98), true},
		{"a/b/" + n(99), "a/b", n(99), true},
		{"a/b/c/" + n(100), "a/b/c", n(100), true},
		{p(60) + "/b/" + n(60), p(60), "b/" + n(60), true},
		{"a//" + n(100), "a/", n(100), true},
		{"a//" + n(99), "a", "/" + n(99), true},
		{"//" + n(100), "/", n(100), true},
		{"//" + n(99), "/", n(99), true},
		{"/a/" + n(100), "/a", n(100), true},
		{p(100) + "//", p(100), "/", true},
		{p(155) + "//", p(155), "/", true},
		{p(156) + "//", "", "", false},
		{strings.Repeat("/", 101), "/", strings.Repeat("/", 99), true},
		{strings.Repeat("/", 256), strings.Repeat("/", 155), strings.Repeat("/", 100), true},
		{strings.Repeat("/", 257), "", "", false},
		{strings.Repeat("\xff", 60) + "/" + strings.Repeat("\x00", 60), strings.Repeat("\xff", 60), strings.Repeat("\x00", 60), true},
		{strings.Repeat("\u00e9", 51), "", "", false},
	} {
		cuts(t, x.name, x.prefix, x.rest, x.ok)
	}
}

// P4.2: Cut of all names with two slashes at any places, of lengths at which it may turn.
func TestCutPlaces(t *testing.T) {
	for _, size := range []int{100, 101, 102, 103, 155, 156, 157, 158, 255, 256, 257, 258} {
		for i := range size {
			for j := i; j < size; j++ {
				b := bytes.Repeat([]byte("n"), size)
				b[i], b[j] = '/', '/'
				prefix, rest, ok := cut(string(b))
				cuts(t, string(b), prefix, rest, ok)
			}
		}
	}
}
