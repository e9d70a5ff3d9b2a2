package links_test

import (
	"fmt"
	"math/rand"
	"slices"
	"strings"
	"testing"

	"bindle/api"
	"bindle/links"
	"bindle/tree"
)

// answers expects Members to answer these, sound ones, and Fold of them to be the tree.
func answers(t *testing.T, list []api.Node, order []string, want ...api.Member) {
	t.Helper()
	got, e := links.Members(list, order)
	if e != api.OK || !slices.EqualFunc(got, want, sameMember) {
		t.Errorf("Members of %s, in order %.200q: %d, %s, want %s", toldTree(list), order, e, told(got), told(want))
		return
	}
	if !links.Sound(got) {
		t.Errorf("Members of %s, in order %.200q, are not sound: %s", toldTree(list), order, told(got))
	}
	if back, f := tree.Fold(got); f != (api.Fault{}) || !slices.EqualFunc(back, list, sameNode) {
		t.Errorf("Fold of %s: %v, %s, want %s", told(got), f, toldTree(back), toldTree(list))
	}
}

// refused expects Members to answer ErrArg, and nothing beside it.
func refused(t *testing.T, list []api.Node, order []string) {
	t.Helper()
	if got, e := links.Members(list, order); e != api.ErrArg || len(got) != 0 {
		t.Errorf("Members of %s, in order %.200q: %d, %s", toldTree(list), order, e, told(got))
	}
}

// P11.1: the tree of nothing, and trees of one node.
func TestMembersFew(t *testing.T) {
	for _, list := range [][]api.Node{nil, {}} {
		for _, order := range [][]string{nil, {}} {
			answers(t, list, order)
		}
		refused(t, list, []string{""})
		refused(t, list, []string{"a"})
	}
	for _, x := range []api.Node{isFile("a/b", "a/b", "abc"), isFile("a/b", "a/b", ""), isSym("a/b", "/../c"), isDir("a/b")} {
		x.Meta = meta
		answers(t, []api.Node{x}, []string{"a/b"}, api.Member{Path: x.Path, Target: x.Target, Kind: x.Kind, Meta: meta, Body: x.Body})
	}
}

// P11.1: the chapter's example, and others: which one of a class is the File is what the order says, not what Leader says.
func TestMembersClass(t *testing.T) {
	list := []api.Node{isFile("a", "a", "x"), isFile("b", "a", "x")}
	answers(t, list, []string{"b", "a"}, file("b", "x"), hard("a", "b"))
	answers(t, list, []string{"a", "b"}, file("a", "x"), hard("b", "a"))
	list = append(list, isFile("c", "a", "x"))
	answers(t, list, []string{"a", "b", "c"}, file("a", "x"), hard("b", "a"), hard("c", "a"))
	answers(t, list, []string{"c", "b", "a"}, file("c", "x"), hard("b", "c"), hard("a", "c"))
	answers(t, list, []string{"b", "c", "a"}, file("b", "x"), hard("c", "b"), hard("a", "b"))
	list = []api.Node{isFile("a", "a", "x"), isFile("b", "b", "y"), isFile("c", "a", "x"), isFile("d", "b", "y")}
	answers(t, list, []string{"d", "c", "b", "a"}, file("d", "y"), file("c", "x"), hard("b", "d"), hard("a", "c"))
	list = []api.Node{isFile("a", "a", ""), isFile("b", "a", "")}
	answers(t, list, []string{"b", "a"}, file("b", ""), hard("a", "b"))
}

// P11.1: files with the same content that are of no class are Files, each with its Body.
func TestMembersAlike(t *testing.T) {
	list := []api.Node{isFile("a", "a", "x"), isFile("b", "b", "x"), isFile("c", "b", "x"), isFile("d", "d", "x")}
	answers(t, list, []string{"d", "c", "b", "a"}, file("d", "x"), file("c", "x"), hard("b", "c"), file("a", "x"))
	list = []api.Node{isFile("a", "a", ""), isFile("b", "b", ""), isSym("c", "a"), isSym("d", "a"), isDir("e"), isDir("f")}
	answers(t, list, []string{"f", "e", "d", "c", "b", "a"}, dir("f"), dir("e"), sym("d", "a"), sym("c", "a"), file("b", ""), file("a", ""))
}

// P11.1: the meta data of a Hard are the node's.
func TestMembersMeta(t *testing.T) {
	list := []api.Node{isFile("a", "a", "x"), isFile("b", "a", "x"), isSym("c", "x"), isDir("d")}
	for i := range list {
		list[i].Meta = meta
	}
	list[3].Meta = api.Meta{Mode: api.MaxMode, UID: api.MaxID - 1, GID: api.MaxID - 1, Time: api.MaxTime}
	want := []api.Member{dir("d"), file("b", "x"), sym("c", "x"), hard("a", "b")}
	for i := range want {
		want[i].Meta = meta
	}
	want[0].Meta = list[3].Meta
	answers(t, list, []string{"d", "b", "c", "a"}, want...)
}

// P11.1: a path may come ahead of those that it goes on from, and paths and bodies may be as long as they may be.
func TestMembersEdges(t *testing.T) {
	list := []api.Node{isFile("a", "a", "x"), isDir("a b"), isFile("a/b", "a", "x"), isSym("a/b/c", "a"), isFile("\u00e9", "\u00e9", "y")}
	answers(t, list, []string{"a/b/c", "\u00e9", "a/b", "a", "a b"}, sym("a/b/c", "a"), file("\u00e9", "y"), file("a/b", "x"), hard("a", "a/b"), dir("a b"))
	long := func(s string) string { return strings.Repeat(s, api.MaxPath) }
	body := strings.Repeat("b", api.MaxBody)
	list = []api.Node{isFile(long("p"), long("p"), body), isFile(long("q"), long("p"), body), isSym(long("r"), strings.Repeat("t", api.MaxLink))}
	answers(t, list, []string{long("r"), long("q"), long("p")}, sym(long("r"), strings.Repeat("t", api.MaxLink)), file(long("q"), body), hard(long("p"), long("q")))
}

// P11.1: what is no order of the tree: a path is missed, is there twice, or is none of the tree's.
func TestMembersNoOrder(t *testing.T) {
	all := paths(mixed())
	refused(t, mixed(), nil)
	refused(t, mixed(), []string{})
	strange := []string{"", "/", ".", "A", "a/", "./a", "/a", "aa", "a\x00", "bb", "h", "h/", "h/i/", "h//i", "h/ii", "z", "\x00", "\xff", "\u00e9", "../b", strings.Repeat("z", 300)}
	for at := range all {
		refused(t, mixed(), all[:at])
		refused(t, mixed()[:at], all)
		refused(t, mixed(), slices.Delete(slices.Clone(all), at, at+1))
		for _, path := range append(strange, all...) {
			refused(t, mixed(), slices.Insert(slices.Clone(all), at, path))
			order := slices.Clone(all)
			order[at] = path
			if path != all[at] {
				refused(t, mixed(), order)
			}
		}
	}
	refused(t, mixed(), slices.Repeat(all, 2))
	refused(t, mixed(), slices.Repeat([]string{"b"}, len(all)))
}

// P11.1: each order of a tree in which all kinds, and classes of one, two and three files are.
func TestMembersAllOrders(t *testing.T) {
	list := slices.DeleteFunc(mixed(), func(x api.Node) bool { return x.Path == "h/i" || x.Path == "a" })
	n := 0
	permute(paths(list), func(order []string) {
		if !t.Failed() {
			answers(t, list, order, modelMembers(list, order)...)
		}
		n++
	})
	if n != 5040 {
		t.Errorf("%d orders", n)
	}
}

// grown is a good tree of n nodes: every third one is a Sym or a Dir, the files are of classes of up to so many.
func grown(n, most int) []api.Node {
	list := make([]api.Node, n)
	leader := 0
	names := 0
	for i := range list {
		list[i] = isDir(fmt.Sprintf("%06d", i))
		list[i].Meta = api.Meta{Mode: i % 4096, UID: i}
		switch {
		case i%6 == 2:
			list[i].Kind, list[i].Target = api.Sym, fmt.Sprint(i)
		case i%3 != 2:
			if names%most == 0 {
				leader = i
			}
			names++
			body := fmt.Sprint(leader / 100)
			list[i] = isFile(list[i].Path, list[leader].Path, body)
			list[i].Meta = api.Meta{Time: leader / 100}
		}
	}
	return list
}

// P11.1: trees of many nodes, the most that there may be among them, in any order.
func TestMembersMany(t *testing.T) {
	pick := rand.New(rand.NewSource(11))
	shuffled := func(list []api.Node) []string {
		order := paths(list)
		pick.Shuffle(len(order), func(i, j int) { order[i], order[j] = order[j], order[i] })
		return order
	}
	for n := range 60 {
		for most := 1; most < 8; most++ {
			list := grown(n, most)
			order := shuffled(list)
			answers(t, list, order, modelMembers(list, order)...)
		}
	}
	for _, most := range []int{1, 5, 5000} {
		list := grown(api.MaxItems, most)
		got, e := links.Members(list, shuffled(list))
		back, f := tree.Fold(got)
		if e != api.OK || f != (api.Fault{}) || !slices.EqualFunc(back, list, sameNode) || !links.Sound(got) {
			t.Errorf("Members of %d nodes: %d, %s, %v", len(list), e, told(got), f)
		}
		files := slices.DeleteFunc(slices.Clone(got), func(m api.Member) bool { return m.Kind != api.File })
		if len(files) != len(links.Classes(list)) {
			t.Errorf("%d classes, and %d Files", len(links.Classes(list)), len(files))
		}
	}
}

// P11.1 with R4: what is handed in is not changed, nor kept, spare room included; answers are new memory.
func TestMembersMemory(t *testing.T) {
	list := append(mixed(), isDir("room"))
	room := []byte("abcroom")
	list[1].Body, list[3].Body, list[6].Body = room[:3], room[:3:3], room[:3]
	list[0].Body, list[5].Body = room[:0], room[:0]
	order := append(paths(mixed()), "room")
	was := slices.Clone(order)
	head := list[:len(mixed())]
	one, _ := links.Members(head, order[:len(mixed())])
	two, _ := links.Members(head, order[:len(mixed())])
	for i := range one {
		body := one[i].Body[:cap(one[i].Body)]
		for at := range body {
			body[at] = '!'
		}
	}
	clear(one)
	if string(room) != "abcroom" || !slices.Equal(order, was) || !slices.EqualFunc(list, append(mixed(), isDir("room")), sameNode) {
		t.Errorf("changed: %q, %q, %s", room, order, toldTree(list))
	}
	clear(room)
	clear(list)
	clear(order)
	if want := modelMembers(mixed(), paths(mixed())); !slices.EqualFunc(two, want, sameMember) {
		t.Errorf("shared: %s, want %s", told(two), told(want))
	}
}

// P11.1 with R5: the same again, whatever was asked between.
func TestMembersAgain(t *testing.T) {
	order := paths(mixed())
	slices.Reverse(order)
	for range 20 {
		answers(t, mixed(), order, modelMembers(mixed(), order)...)
		refused(t, mixed(), order[1:])
		answers(t, mixed(), paths(mixed()), modelMembers(mixed(), paths(mixed()))...)
	}
}

// Of trees that are not good nothing is promised, but that each call ends.
func TestNotGoodEnds(t *testing.T) {
	for at := range mixed() {
		for _, change := range []func(x *api.Node){
			func(x *api.Node) { *x = api.Node{} }, func(x *api.Node) { x.Path = "b" }, func(x *api.Node) { x.Path = "\xff" }, func(x *api.Node) { x.Leader = "" },
			func(x *api.Node) { x.Leader = "z" }, func(x *api.Node) { x.Kind = api.Hard }, func(x *api.Node) { x.Kind = api.File }, func(x *api.Node) { x.Meta.Mode = -1 },
		} {
			list := mixed()
			change(&list[at])
			links.Classes(list)
			for _, order := range [][]string{paths(list), paths(mixed()), nil} {
				got, e := links.Members(list, order)
				if e != api.OK && (e != api.ErrArg || len(got) != 0) {
					t.Errorf("Members of %s: %d, %s", toldTree(list), e, told(got))
				}
			}
		}
	}
}
