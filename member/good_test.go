package member_test

import (
	"bytes"
	"fmt"
	"math"
	"slices"
	"strings"
	"testing"

	"bindle/api"
	"bindle/member"
)

// kinds are the kinds that a member may have.
var kinds = []byte{api.File, api.Hard, api.Sym, api.Dir}

// plain is a good member of a kind, of which no field that may have something is empty.
func plain(kind byte) api.Member {
	m := api.Member{Path: "a/b", Kind: kind, Meta: api.Meta{Mode: 1, UID: 2, GID: 3, Time: 4}}
	switch kind {
	case api.File:
		m.Body = []byte("abc")
	case api.Hard:
		m.Target = "c/d"
	case api.Sym:
		m.Target = "../e"
	}
	return m
}

// told is what a failure tells of a member.
func told(m api.Member) string {
	return fmt.Sprintf("%.250q %.250q %q %v %.20q (%d bytes)", m.Path, m.Target, m.Kind, m.Meta, m.Body, len(m.Body))
}

// isGood expects Good to answer so of a member that is changed.
func isGood(t *testing.T, want bool, m api.Member, change func(m *api.Member)) {
	t.Helper()
	change(&m)
	if got := member.Good(m); got != want {
		t.Errorf("Good(%s): %v", told(m), got)
	}
}

// P8.1: members as they are, and without what may lack.
func TestGood(t *testing.T) {
	for _, kind := range kinds {
		isGood(t, true, plain(kind), func(m *api.Member) {})
		isGood(t, true, plain(kind), func(m *api.Member) { m.Meta = api.Meta{} })
		isGood(t, true, plain(kind), func(m *api.Member) { m.Path = "a" })
	}
	isGood(t, false, api.Member{}, func(m *api.Member) {})
	isGood(t, false, api.Member{}, func(m *api.Member) { m.Path = "a" })
	isGood(t, false, api.Member{}, func(m *api.Member) { m.Kind = api.File })
}

// P8.1: of the kinds just four.
func TestGoodKind(t *testing.T) {
	for kind := range 256 {
		want := strings.ContainsRune("0125", rune(kind))
		for _, target := range []string{"", "c"} {
			m := api.Member{Path: "a", Kind: byte(kind), Target: target}
			isGood(t, want && (target != "") == (kind == '1' || kind == '2'), m, func(m *api.Member) {})
		}
	}
}

// cleans are texts of which the first ones are their own Clean.
func cleans() (good, wrong []string) {
	longest := strings.Repeat("p", api.MaxPath)
	good = []string{"a", "a/b", "...", "a/..b", ".a", " ", "\n", "\x01", "\u00e9/\U0010ffff", longest, longest[:100] + "/" + longest[101:]}
	wrong = []string{
		"", "/", "/a", "a/", "a//b", "./a", "a/.", "a/./b", ".", "./", "..", "../a", "a/..", "a/../b",
		longest + "p", longest + "/", "\x00", "a\x00", "\xff", "a/\xc0\x80", "\xed\xa0\x80", "a\xf4\x90\x80\x80",
	}
	return good, wrong
}

// P8.1: Path is its own Clean; of a hard link Target, too.
func TestGoodClean(t *testing.T) {
	good, wrong := cleans()
	for _, kind := range kinds {
		for _, s := range good {
			isGood(t, true, plain(kind), func(m *api.Member) { m.Path = s })
		}
		for _, s := range wrong {
			isGood(t, false, plain(kind), func(m *api.Member) { m.Path = s })
		}
	}
	for _, s := range good {
		isGood(t, true, plain(api.Hard), func(m *api.Member) { m.Target = s })
	}
	for _, s := range wrong {
		isGood(t, false, plain(api.Hard), func(m *api.Member) { m.Target = s })
	}
	isGood(t, true, plain(api.Hard), func(m *api.Member) { m.Target = m.Path })
}

// P8.1: Target of a symbolic link is one that may be, of files and folders empty.
func TestGoodTarget(t *testing.T) {
	longest := strings.Repeat("t", api.MaxLink)
	for _, s := range []string{"a", "/", "/a//b/", "..", "./a", "\n", "\u00e9", longest, "/" + longest[1:]} {
		isGood(t, true, plain(api.Sym), func(m *api.Member) { m.Target = s })
	}
	for _, s := range []string{"", longest + "t", "\x00", "a\x00", "\xff", "\xc0\x80", "\xed\xa0\x80", longest + "\xff"} {
		isGood(t, false, plain(api.Sym), func(m *api.Member) { m.Target = s })
	}
	for _, s := range []string{"a", "/", "\x00", "\xff", ".", " "} {
		isGood(t, false, plain(api.File), func(m *api.Member) { m.Target = s })
		isGood(t, false, plain(api.Dir), func(m *api.Member) { m.Target = s })
	}
}

// P8.1: each of the meta data at its ends.
func TestGoodMeta(t *testing.T) {
	for _, x := range []struct {
		most int
		of   func(m *api.Meta) *int
	}{
		{4095, func(m *api.Meta) *int { return &m.Mode }},
		{1<<31 - 1, func(m *api.Meta) *int { return &m.UID }},
		{1<<31 - 1, func(m *api.Meta) *int { return &m.GID }},
		{1 << 40, func(m *api.Meta) *int { return &m.Time }},
	} {
		for _, kind := range kinds {
			for _, n := range []int{0, 1, x.most - 1, x.most} {
				isGood(t, true, plain(kind), func(m *api.Member) { *x.of(&m.Meta) = n })
			}
			for _, n := range []int{-1, x.most + 1, math.MinInt, math.MaxInt, math.MinInt + x.most} {
				isGood(t, false, plain(kind), func(m *api.Member) { *x.of(&m.Meta) = n })
			}
		}
	}
}

// P8.1: Body of a file at its end, of all else none.
func TestGoodBody(t *testing.T) {
	for _, kind := range kinds {
		for _, body := range [][]byte{nil, {}, make([]byte, 0, 10)} {
			isGood(t, true, plain(kind), func(m *api.Member) { m.Body = body })
		}
		for _, n := range []int{1, 512, api.MaxBody - 1, api.MaxBody} {
			isGood(t, kind == api.File, plain(kind), func(m *api.Member) { m.Body = make([]byte, n) })
		}
		for _, n := range []int{api.MaxBody + 1, 2 * api.MaxBody} {
			isGood(t, false, plain(kind), func(m *api.Member) { m.Body = make([]byte, n) })
		}
	}
}

// others are members, of which each is another one than all the others.
func others() []api.Member {
	list := []api.Member{
		{}, {Path: "a"}, {Path: "A"}, {Path: "a\x00"}, {Target: "a"}, {Target: "A"}, {Kind: 1}, {Kind: 255},
		{Meta: api.Meta{Mode: 1}}, {Meta: api.Meta{UID: 1}}, {Meta: api.Meta{GID: 1}}, {Meta: api.Meta{Time: 1}},
		{Meta: api.Meta{Mode: -1}}, {Meta: api.Meta{UID: math.MinInt}}, {Meta: api.Meta{GID: math.MaxInt}}, {Meta: api.Meta{Time: 1 << 40}},
		{Body: []byte("a")}, {Body: []byte("A")}, {Body: []byte("ab")}, {Body: []byte("aa")}, {Body: []byte{0}}, {Body: []byte{0, 0}},
		{Path: "\xff", Target: "\x00", Kind: 7, Body: make([]byte, api.MaxBody+1)},
	}
	for _, kind := range kinds {
		list = append(list, plain(kind))
	}
	m := plain(api.File)
	m.Body = bytes.Repeat([]byte("c"), 2000)
	list = append(list, m)
	for _, at := range []int{0, 1000, 1999} {
		m.Body = slices.Clone(m.Body)
		m.Body[at] ^= 1
		list = append(list, m)
	}
	return list
}

// copied is the same member in new memory.
func copied(m api.Member) api.Member {
	m.Path, m.Target = strings.Clone(m.Path), strings.Clone(m.Target)
	m.Body = slices.Clone(m.Body)
	return m
}

// P8.1: the same are just those with the same in all fields, good ones or not.
func TestSame(t *testing.T) {
	list := others()
	for i, a := range list {
		for j, b := range list {
			if got := member.Same(a, copied(b)); got != (i == j) {
				t.Errorf("Same(%s, %s): %v", told(a), told(b), got)
			}
		}
	}
}

// P8.1: nil and empty bodies are the same, and room behind a body counts for nothing.
func TestSameBody(t *testing.T) {
	room := append([]byte("abc"), "xyz"...)
	for _, x := range []struct{ a, b []byte }{
		{nil, nil}, {nil, []byte{}}, {[]byte{}, nil}, {nil, room[:0]}, {room[:0], []byte{}}, {room[:3], []byte("abc")}, {[]byte("abc"), room[:3:3]},
	} {
		for _, kind := range append(kinds, 0) {
			a, b := plain(kind), plain(kind)
			a.Body, b.Body = x.a, x.b
			if !member.Same(a, b) {
				t.Errorf("Same(%s, %s): false", told(a), told(b))
			}
		}
	}
}

// P8.1 with R4: what is handed in is not changed, spare room included.
func TestGoodKeepsArguments(t *testing.T) {
	room := []byte("abcdef")
	m := plain(api.File)
	m.Body = room[:3]
	b := copied(m)
	for range 2 {
		if !member.Good(m) || !member.Same(m, b) || !member.Same(b, m) {
			t.Error(told(m))
		}
	}
	if string(room) != "abcdef" || string(b.Body) != "abc" {
		t.Errorf("changed: %q, %q", room, b.Body)
	}
}
