package tree_test

import (
	"bytes"
	"fmt"
	"math"
	"slices"
	"strings"
	"testing"

	"bindle/api"
	"bindle/member"
	"bindle/tree"
	"bindle/write"
)

// meta is good meta data without a 0.
var meta = api.Meta{Mode: 0o644, UID: 1000, GID: 50, Time: 1234567890}

// P10.1: lists of no members, and of one.
func TestFoldFew(t *testing.T) {
	folds(t, nil)
	folds(t, []api.Member{})
	m := file("a/b", "abc")
	m.Meta = meta
	folds(t, []api.Member{m}, api.Node{Path: "a/b", Leader: "a/b", Kind: '0', Meta: meta, Body: []byte("abc")})
	m = sym("a/b", "../c")
	m.Meta = meta
	folds(t, []api.Member{m}, api.Node{Path: "a/b", Target: "../c", Kind: '2', Meta: meta})
	m = dir("a/b")
	m.Meta = meta
	folds(t, []api.Member{m}, api.Node{Path: "a/b", Kind: '5', Meta: meta})
	folds(t, []api.Member{file("a", "")}, isFile("a", "a", ""))
	folds(t, []api.Member{{Path: "a", Kind: api.File, Body: []byte{}}}, isFile("a", "a", ""))
}

// P10.1: the chapter's example: the leader is the least path, not the first one.
func TestFoldLeader(t *testing.T) {
	folds(t, []api.Member{file("b", "x"), hard("a", "b")}, isFile("a", "a", "x"), isFile("b", "a", "x"))
	folds(t, []api.Member{file("a", "x"), hard("b", "a")}, isFile("a", "a", "x"), isFile("b", "a", "x"))
	folds(t, []api.Member{file("c", "x"), hard("d", "c"), hard("b", "d"), hard("a", "b")},
		isFile("a", "a", "x"), isFile("b", "a", "x"), isFile("c", "a", "x"), isFile("d", "a", "x"))
	folds(t, []api.Member{file("b", "x"), file("d", "y"), hard("c", "d"), hard("a", "d"), hard("e", "b")},
		isFile("a", "a", "y"), isFile("b", "b", "x"), isFile("c", "a", "y"), isFile("d", "a", "y"), isFile("e", "b", "x"))
	folds(t, []api.Member{file("a", "x"), file("b", "x")}, isFile("a", "a", "x"), isFile("b", "b", "x"))
	folds(t, []api.Member{file("z", ""), hard("Z", "z"), hard("\u00e9", "Z")}, isFile("Z", "Z", ""), isFile("z", "Z", ""), isFile("\u00e9", "Z", ""))
}

// P10.1: nodes stand byte by byte, and a path says nothing of those that it goes on from.
func TestFoldOrder(t *testing.T) {
	paths := []string{"\x01", "A", "a", "a b", "a-", "a.b", "a/b", "a/b/c", "a0", "aa", "b", "b/\x7f", "b/\u0080", "b/\u00ff", "b/\uffff", "b/\U0010ffff"}
	var want []api.Node
	var list []api.Member
	for _, path := range paths {
		want = append(want, isFile(path, path, path))
		list = append(list, file(path, path))
	}
	folds(t, list, want...)
	slices.Reverse(list)
	folds(t, list, want...)
	for i := range list {
		folds(t, slices.Concat(list[i:], list[:i]), want...)
	}
	folds(t, []api.Member{file("a/b/c", "x"), file("a", "y"), dir("a/b")}, isFile("a", "a", "y"), api.Node{Path: "a/b", Kind: '5'}, isFile("a/b/c", "a/b/c", "x"))
}

// P10.1: whatever is laid at a path takes the place of what was there.
func TestFoldAgain(t *testing.T) {
	for _, was := range []api.Member{file("b", "old"), sym("b", "old"), dir("b"), hard("b", "a"), hard("b", "c")} {
		was.Meta = api.Meta{Mode: 1}
		for _, next := range []api.Member{file("b", "new"), sym("b", "new"), dir("b")} {
			next.Meta = meta
			x := api.Node{Path: "b", Target: next.Target, Kind: next.Kind, Meta: meta, Body: next.Body}
			if next.Kind == api.File {
				x.Leader = "b"
			}
			folds(t, []api.Member{file("a", "1"), file("c", "2"), was, next}, isFile("a", "a", "1"), x, isFile("c", "c", "2"))
		}
		folds(t, []api.Member{file("a", "1"), file("c", "2"), was, hard("b", "c")}, isFile("a", "a", "1"), isFile("b", "b", "2"), isFile("c", "b", "2"))
	}
}

// P10.1: a class whose names are taken away, the first one and the least among them, is there as long as it has one.
func TestFoldClassLeft(t *testing.T) {
	three := []api.Member{file("b", "x"), hard("a", "b"), hard("c", "b")}
	folds(t, append(three[:3:3], file("b", "y")), isFile("a", "a", "x"), isFile("b", "b", "y"), isFile("c", "a", "x"))
	folds(t, append(three[:3:3], file("b", "x")), isFile("a", "a", "x"), isFile("b", "b", "x"), isFile("c", "a", "x"))
	folds(t, append(three[:3:3], dir("a")), api.Node{Path: "a", Kind: '5'}, isFile("b", "b", "x"), isFile("c", "b", "x"))
	folds(t, append(three[:3:3], dir("b"), sym("a", "t")), api.Node{Path: "a", Target: "t", Kind: '2'}, api.Node{Path: "b", Kind: '5'}, isFile("c", "c", "x"))
	folds(t, append(three[:3:3], file("b", "y"), hard("a", "b"), hard("c", "a")), isFile("a", "a", "y"), isFile("b", "a", "y"), isFile("c", "a", "y"))
	folds(t, append(three[:3:3], file("b", "y"), hard("b", "c")), isFile("a", "a", "x"), isFile("b", "a", "x"), isFile("c", "a", "x"))
	folds(t, append(three[:3:3], dir("b"), hard("d", "a"), dir("a"), dir("c"), hard("e", "d")),
		api.Node{Path: "a", Kind: '5'}, api.Node{Path: "b", Kind: '5'}, api.Node{Path: "c", Kind: '5'}, isFile("d", "d", "x"), isFile("e", "d", "x"))
}

// P10.1: of a hard link its own meta data count for nothing, and of one to itself, or within its class, nothing changes.
func TestFoldHard(t *testing.T) {
	one := file("m", "x")
	one.Meta = meta
	link := hard("a", "m")
	link.Meta = api.Meta{Mode: 1, UID: 2, GID: 3, Time: 4}
	a := api.Node{Path: "a", Leader: "a", Kind: '0', Meta: meta, Body: []byte("x")}
	m := a
	m.Path = "m"
	folds(t, []api.Member{one, link}, a, m)
	for _, more := range []api.Member{hard("a", "a"), hard("m", "m"), hard("a", "m"), hard("m", "a")} {
		more.Meta = link.Meta
		folds(t, []api.Member{one, link, more}, a, m)
		folds(t, []api.Member{one, link, more, more}, a, m)
	}
	m.Leader = "m"
	self := hard("m", "m")
	self.Meta = link.Meta
	folds(t, []api.Member{one, self}, m)
}

// P10.1: links to what is no file then, be it not there at all, only later, or of another kind.
func TestFoldLink(t *testing.T) {
	faults(t, []api.Member{hard("a", "a")}, api.ErrLink, 0)
	faults(t, []api.Member{hard("a", "b")}, api.ErrLink, 0)
	faults(t, []api.Member{hard("a", "b"), file("b", "")}, api.ErrLink, 0)
	faults(t, []api.Member{file("a", ""), hard("a/b", "a/c")}, api.ErrLink, 1)
	faults(t, []api.Member{file("a/b", ""), hard("c", "a")}, api.ErrLink, 1)
	faults(t, []api.Member{file("a", ""), hard("b", "A")}, api.ErrLink, 1)
	for _, m := range []api.Member{sym("b", "a"), dir("b")} {
		faults(t, []api.Member{file("a", ""), m, hard("c", "b")}, api.ErrLink, 2)
		faults(t, []api.Member{file("a", ""), m, hard("b", "b")}, api.ErrLink, 2)
		faults(t, []api.Member{file("b", ""), m, hard("c", "b")}, api.ErrLink, 2)
		faults(t, []api.Member{file("a", ""), hard("b", "a"), m, hard("c", "b"), file("b", "")}, api.ErrLink, 3)
		folds(t, []api.Member{m, file("b", "x"), hard("c", "b")}, isFile("b", "b", "x"), isFile("c", "b", "x"))
		folds(t, []api.Member{file("a", "x"), m, hard("b", "a")}, isFile("a", "a", "x"), isFile("b", "a", "x"))
	}
	faults(t, []api.Member{file("a", ""), sym("s", "a"), hard("b", "a"), hard("c", "s"), hard("d", "e")}, api.ErrLink, 3)
	for n := range 20 {
		faults(t, append(slices.Repeat([]api.Member{file("a", ""), hard("b", "a")}, n), hard("a", "x"), hard("y", "x")), api.ErrLink, 2*n)
	}
}

// wrong are members that are not good.
func wrong() []api.Member {
	long := strings.Repeat("p", api.MaxPath+1)
	list := []api.Member{
		{}, {Path: "a"}, {Path: "a", Kind: '7'}, {Path: "a", Kind: 'x'}, {Path: "a", Kind: '5' + 128}, {Kind: api.File}, {Kind: api.Dir},
		file("/", ""), file("/a", ""), file("a/", ""), file("./a", ""), file("a/../b", ""), file("..", ""), file("a\x00", ""), file("\xff", ""), file(long, ""), dir("a/"), dir(long),
		hard("a", ""), hard("a", "/a"), hard("a", "a/"), hard("a", "./a"), hard("a", ".."), hard("a", "\xff"), hard("a", long), hard("a/", "a"),
		sym("a", ""), sym("a", long), sym("a", "\x00"), sym("a", "\xff"), sym(".", "a"),
		{Path: "a", Kind: api.File, Target: "a"}, {Path: "a", Kind: api.Dir, Target: "a"},
		{Path: "a", Kind: api.Dir, Body: []byte("x")}, {Path: "a", Target: "a", Kind: api.Hard, Body: []byte("x")}, {Path: "a", Target: "a", Kind: api.Sym, Body: []byte("x")},
		{Path: "a", Kind: api.File, Body: make([]byte, api.MaxBody+1)},
	}
	for _, m := range []api.Member{file("a", ""), hard("a", "a"), sym("a", "a"), dir("a")} {
		for _, m.Meta = range wrongMeta() {
			list = append(list, m)
		}
	}
	return list
}

// wrongMeta are meta data of which one number is out of its bounds.
func wrongMeta() []api.Meta {
	return []api.Meta{
		{Mode: -1}, {UID: -1}, {GID: -1}, {Time: -1}, {Mode: 4096}, {UID: 1 << 31}, {GID: 1 << 31}, {Time: 1<<40 + 1},
		{Mode: math.MaxInt}, {UID: math.MinInt}, {GID: math.MaxInt}, {Time: math.MinInt},
	}
}

// P10.1: the first member that is not good, ahead of any link to nothing.
func TestFoldArg(t *testing.T) {
	some := []api.Member{file("a", ""), hard("b", "a"), dir("d")}
	for _, m := range wrong() {
		for at := range 4 {
			faults(t, slices.Insert(slices.Clone(some), at, m), api.ErrArg, at)
		}
		faults(t, []api.Member{m, m, {}}, api.ErrArg, 0)
		faults(t, []api.Member{hard("b", "c"), file("c", ""), m, {}}, api.ErrArg, 2)
		faults(t, []api.Member{file("a", ""), m, hard("b", "c")}, api.ErrArg, 1)
	}
}

// P10.1: members at their ends.
func TestFoldLargest(t *testing.T) {
	long, body := strings.Repeat("p", api.MaxPath), bytes.Repeat([]byte("z"), api.MaxBody)
	largest := api.Meta{Mode: 4095, UID: 1<<31 - 1, GID: 1<<31 - 1, Time: 1 << 40}
	folds(t, []api.Member{
		{Path: long, Kind: api.File, Meta: largest, Body: body}, {Path: "h", Target: long, Kind: api.Hard, Meta: largest}, {Path: "z", Target: strings.Repeat("t", api.MaxLink), Kind: api.Sym, Meta: largest},
	},
		api.Node{Path: "h", Leader: "h", Kind: '0', Meta: largest, Body: body},
		api.Node{Path: long, Leader: "h", Kind: '0', Meta: largest, Body: body},
		api.Node{Path: "z", Target: strings.Repeat("t", api.MaxLink), Kind: '2', Meta: largest})
}

// P10.1: no list is too long to be laid, even if its tree is too large to be good.
func TestFoldMany(t *testing.T) {
	for _, n := range []int{api.MaxItems, api.MaxItems + 1, 2 * api.MaxItems} {
		list := []api.Member{file("x", "body")}
		var want []api.Node
		for i := range n - 1 {
			path := fmt.Sprintf("f%05d", i)
			list = append(list, hard(path, "x"))
			want = append(want, isFile(path, "f00000", "body"))
		}
		want = append(want, isFile("x", "f00000", "body"))
		folds(t, list, want...)
		if got := tree.Good(want); got != (n <= api.MaxItems) {
			t.Errorf("Good of %d nodes: %v", n, got)
		}
		faults(t, append(list, hard("y", "z")), api.ErrLink, n)
		faults(t, append(list, file("/", "")), api.ErrArg, n)
		folds(t, slices.Repeat([]api.Member{file("x", "1"), file("x", "2")}, n), isFile("x", "x", "2"))
	}
}

// P10.1: members as chapter 8 reads them from what chapter 9 writes.
func TestFoldArchive(t *testing.T) {
	list := []api.Member{file("m", "one"), hard("z", "m"), file("m", "two"), hard("a", "z"), sym("s", "/m"), dir("m/x")}
	b, _ := write.Archive(list)
	read, f := member.Read(b, nil)
	if f.E != api.OK {
		t.Fatal(f)
	}
	folds(t, read, isFile("a", "a", "one"), isFile("m", "m", "two"), api.Node{Path: "m/x", Kind: '5'}, api.Node{Path: "s", Target: "/m", Kind: '2'}, isFile("z", "a", "one"))
}

// P10.1 with R4: what is handed in is not changed, spare room included, and not kept; no two bodies share their memory, not those of one class either.
func TestFoldMemory(t *testing.T) {
	room := []byte("abcroom")
	whole := []api.Member{file("m", ""), hard("a", "m"), file("n", "xyz"), dir("room")}
	whole[0].Body = room[:3]
	want := []api.Node{isFile("a", "a", "abc"), isFile("m", "a", "abc"), isFile("n", "n", "xyz")}
	list := whole[:3]
	one, _ := tree.Fold(list)
	two, _ := tree.Fold(list)
	if string(room) != "abcroom" || !slices.EqualFunc(whole, []api.Member{file("m", "abc"), hard("a", "m"), file("n", "xyz"), dir("room")}, member.Same) {
		t.Errorf("changed: %q, %s", room, toldList(whole))
	}
	for i := range one {
		body := one[i].Body[:cap(one[i].Body)]
		for j := range body {
			body[j] = '!'
		}
		one[i].Body = nil
		if !slices.EqualFunc(one[i+1:], want[i+1:], sameNode) {
			t.Errorf("changed with the body of %s: %s", want[i].Path, toldAll(one))
		}
	}
	one[0].Path = "!"
	if string(room) != "abcroom" || string(list[2].Body) != "xyz" {
		t.Errorf("changed by what was answered: %q", room)
	}
	clear(room)
	clear(whole)
	if !slices.EqualFunc(two, want, sameNode) {
		t.Error("kept, or shared with another answer: " + toldAll(two))
	}
}

// P10.1 with R5: nothing is left from one call to another, and no order of a map is to be seen.
func TestFoldAgainTheSame(t *testing.T) {
	var list []api.Member
	for i := range 50 {
		list = append(list, file(fmt.Sprint("f", i), "x"), hard(fmt.Sprint("g", i), fmt.Sprint("f", i/2)))
	}
	want, _ := modelFold(list)
	for range 20 {
		folds(t, list, want...)
		faults(t, []api.Member{hard("a", "f1")}, api.ErrLink, 0)
	}
}
