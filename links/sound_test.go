package links_test

import (
	"fmt"
	"slices"
	"strings"
	"testing"

	"bindle/api"
	"bindle/links"
	"bindle/tree"
)

// isSound expects Sound to answer so.
func isSound(t *testing.T, want bool, list ...api.Member) {
	t.Helper()
	if links.Sound(list) != want {
		t.Errorf("Sound of %s: not %v", told(list), want)
	}
}

// P11.2: nothing, one member, and a few.
func TestSound(t *testing.T) {
	isSound(t, true)
	isSound(t, true, []api.Member{}...)
	isSound(t, true, file("a", ""))
	isSound(t, true, file("a/b", "x"))
	isSound(t, true, sym("a", "a"))
	isSound(t, true, dir("a"))
	isSound(t, true, dir("b"), sym("a", "nothing"), file("a/b", "x"), file("\u00e9", "x"))
	isSound(t, true, file("b", "x"), hard("a", "b"))
	isSound(t, true, file("b", "x"), hard("a", "b"), dir("c"), hard("d", "b"), file("e", ""), hard("b/c", "e"))
	m := hard("a", "b")
	m.Meta = meta
	isSound(t, true, file("b", "x"), m)
}

// P11.2: each Hard goes to a File ahead of it: not to one behind it, to itself, to another kind, or to nothing.
func TestSoundLinks(t *testing.T) {
	isSound(t, false, hard("a", "b"))
	isSound(t, false, hard("a", "a"))
	isSound(t, false, hard("a", "b"), file("b", ""))
	isSound(t, false, file("b", ""), hard("a", "B"))
	isSound(t, false, file("b", ""), hard("a", "b/b"))
	isSound(t, false, file("b/b", ""), hard("a", "b"))
	isSound(t, false, file("b", ""), hard("a", "bb"))
	isSound(t, false, file("b", ""), hard("b", "b"))
	isSound(t, false, sym("b", "c"), hard("a", "b"))
	isSound(t, false, sym("b", "c"), file("c", ""), hard("a", "b"))
	isSound(t, false, dir("b"), hard("a", "b"))
	isSound(t, false, file("c", ""), hard("b", "c"), hard("a", "b"))
	isSound(t, true, file("c", ""), hard("b", "c"), hard("a", "c"))
	isSound(t, false, file("c", ""), hard("b", "c"), hard("a", "d"), file("d", ""))
	isSound(t, false, hard("b", "a"), hard("a", "b"))
}

// P11.2: no path is there twice, of whatever kinds the two are, and whatever stands between.
func TestSoundTwice(t *testing.T) {
	kinds := []api.Member{file("a", "x"), hard("a", "f"), sym("a", "t"), dir("a")}
	for _, one := range kinds {
		for _, two := range kinds {
			isSound(t, false, file("f", ""), one, two)
			isSound(t, false, file("f", ""), one, dir("b"), sym("c", "a"), two, file("d", ""))
			two.Path = "a/a"
			isSound(t, true, file("f", ""), one, two)
		}
		isSound(t, false, file("f", ""), one, file("f", ""))
		isSound(t, false, one, one)
	}
	isSound(t, false, file("f", ""), hard("a", "f"), file("f", ""), hard("b", "f"))
}

// notGood are members that are not good, each in one thing.
func notGood() []api.Member {
	long := strings.Repeat("p", api.MaxPath+1)
	list := []api.Member{
		{}, {Path: "z"}, {Path: "z", Kind: '7'}, {Path: "z", Kind: 'x'}, {Kind: api.File}, {Kind: api.Dir},
		file("/", ""), file("/z", ""), file("z/", ""), file("./z", ""), file("z/../b", ""), file("..", ""), file("z\x00", ""), file("\xff", ""), file(long, ""), dir("z/"), dir(long),
		hard("z", ""), hard("z", "/a"), hard("z", "a/"), hard("z", "./a"), hard("z", ".."), hard("z", "\xff"), hard("z", long), hard("z/", "a"),
		sym("z", ""), sym("z", long), sym("z", "\x00"), sym("z", "\xff"), sym(".", "a"),
		{Path: "z", Kind: api.File, Target: "a"}, {Path: "z", Kind: api.Dir, Target: "a"},
		{Path: "z", Kind: api.Dir, Body: []byte("x")}, {Path: "z", Target: "a", Kind: api.Hard, Body: []byte("x")}, {Path: "z", Target: "a", Kind: api.Sym, Body: []byte("x")},
		{Path: "z", Kind: api.File, Body: make([]byte, api.MaxBody+1)},
	}
	for _, m := range []api.Member{file("z", ""), hard("z", "a"), sym("z", "a"), dir("z")} {
		for _, bad := range []api.Meta{{Mode: -1}, {Mode: api.MaxMode + 1}, {UID: -1}, {UID: api.MaxID}, {GID: -1}, {GID: api.MaxID}, {Time: -1}, {Time: api.MaxTime + 1}} {
			m.Meta = bad
			list = append(list, m)
		}
	}
	return list
}

// P11.2: one that is not good, wherever it stands.
func TestSoundNotGood(t *testing.T) {
	list := []api.Member{file("a", "x"), hard("b", "a"), dir("c")}
	for _, m := range notGood() {
		isSound(t, false, m)
		for at := range len(list) + 1 {
			isSound(t, false, slices.Insert(slices.Clone(list), at, m)...)
		}
	}
	for _, m := range []api.Member{file("z", ""), hard("z", "a"), sym("z", "\u00e9"), dir("z")} {
		m.Meta = api.Meta{Mode: api.MaxMode, UID: api.MaxID - 1, GID: api.MaxID - 1, Time: api.MaxTime}
		isSound(t, true, append(slices.Clone(list), m)...)
	}
	isSound(t, true, append(slices.Clone(list), file(strings.Repeat("p", api.MaxPath), strings.Repeat("b", api.MaxBody)))...)
}

// P11.2: all lists of up to four members at three paths, against a model; what is sound has as many nodes as members.
func TestSoundAll(t *testing.T) {
	var choices []api.Member
	for _, path := range []string{"a", "b", "c"} {
		choices = append(choices, file(path, "x"), sym(path, "a"), dir(path), hard(path, "a"), hard(path, "b"), hard(path, "c"))
	}
	var lists func(list []api.Member)
	lists = func(list []api.Member) {
		want := modelSound(list)
		isSound(t, want, list...)
		if nodes, f := tree.Fold(list); want && (f.E != api.OK || len(nodes) != len(list)) {
			t.Errorf("%s: %v, %s", told(list), f, toldTree(nodes))
		}
		if len(list) == 4 || t.Failed() {
			return
		}
		for _, m := range choices {
			lists(append(slices.Clone(list), m))
		}
	}
	lists(nil)
}

// P11.2: no list is too long, and a fault is found at its end, too.
func TestSoundMany(t *testing.T) {
	for _, n := range []int{100, api.MaxItems, api.MaxItems + 1, 2 * api.MaxItems} {
		list := []api.Member{file("f", "x")}
		for i := range n - 1 {
			list = append(list, hard(fmt.Sprint(i), "f"))
		}
		isSound(t, true, list...)
		isSound(t, false, append(list, dir("f"))...)
		isSound(t, false, append(list, hard("z", "0"))...)
		isSound(t, false, append(list[1:n:n], list[0])...)
		list[n-1].Target = "g"
		isSound(t, false, list...)
	}
}

// P11.2 with R4: what is handed in is not changed.
func TestSoundKeepsArguments(t *testing.T) {
	room := []byte("xroom")
	list := []api.Member{{Path: "a", Kind: api.File, Body: room[:1]}, hard("b", "a"), dir("room")}
	for range 2 {
		isSound(t, true, list[:2]...)
	}
	if string(room) != "xroom" || !slices.EqualFunc(list, []api.Member{file("a", "x"), hard("b", "a"), dir("room")}, sameMember) {
		t.Errorf("changed: %q, %s", room, told(list))
	}
}
