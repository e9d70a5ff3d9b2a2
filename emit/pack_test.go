package emit_test

import (
	"archive/tar"
	"bytes"
	"io"
	"math/rand"
	"slices"
	"strings"
	"testing"

	"bindle/api"
	"bindle/emit"
	"bindle/links"
	"bindle/member"
	"bindle/tree"
)

// packs expects Pack to answer an archive of these members, which is the model's too, and Unpack of it to answer the tree.
func packs(t *testing.T, list []api.Node, want ...api.Member) {
	t.Helper()
	b := archive(t, want...)
	if !bytes.Equal(b, packed(list)) {
		t.Errorf("%s: the model has another archive than %s", toldTree(list), told(want))
	}
	packsAs(t, list, b)
}

// packsAs expects Pack to answer these bytes, and Unpack of them to answer the tree.
func packsAs(t *testing.T, list []api.Node, want []byte) {
	t.Helper()
	b, e := emit.Pack(list)
	if e != api.OK || !bytes.Equal(b, want) {
		read, f := member.Read(b, nil)
		t.Errorf("Pack of %s: %d, %d bytes, want %d: %v, %s", toldTree(list), e, len(b), len(want), f, told(read))
		return
	}
	for _, chunks := range [][]int{nil, {600, 1}} {
		if back, f := emit.Unpack(b, chunks); f != (api.Fault{}) || !slices.EqualFunc(back, list, sameNode) {
			t.Errorf("Unpack of Pack: %v, %s, want %s", f, toldTree(back), toldTree(list))
		}
	}
	if read, _ := member.Read(b, nil); !links.Sound(read) || !emit.Sorted(read) {
		t.Errorf("Pack of %s is not sound, or not sorted: %s", toldTree(list), told(read))
	}
}

// refuses expects Pack to answer ErrArg, and nothing beside it.
func refuses(t *testing.T, list []api.Node) {
	t.Helper()
	if b, e := emit.Pack(list); e != api.ErrArg || len(b) != 0 {
		t.Errorf("Pack of %s: %d, %d bytes", toldTree(list), e, len(b))
	}
}

// P12.1: the chapter's example: nothing.
func TestPackNothing(t *testing.T) {
	packsAs(t, nil, make([]byte, 1024))
	packsAs(t, []api.Node{}, make([]byte, 1024))
	packs(t, nil)
}

// P12.1: one node of each kind.
func TestPackOne(t *testing.T) {
	for _, of := range []api.Meta{{}, meta, most} {
		for _, x := range []api.Node{isFile("a/b", "a/b", "abc"), isFile("a/b", "a/b", ""), isSym("a/b", "../c"), isDir("a/b")} {
			x.Meta = of
			packs(t, []api.Node{x}, api.Member{Path: x.Path, Target: x.Target, Kind: x.Kind, Meta: of, Body: x.Body})
		}
	}
}

// P12.1: of a class the least path is the File, each other one a Hard to it; those of no class are Files, whatever their content is.
func TestPackClasses(t *testing.T) {
	packs(t, []api.Node{isFile("a", "a", "x"), isFile("b", "a", "x")}, file("a", "x"), hard("b", "a"))
	packs(t, []api.Node{isFile("a", "a", "x"), isFile("b", "b", "x")}, file("a", "x"), file("b", "x"))
	packs(t, []api.Node{isFile("a", "a", "x"), isFile("b", "b", "y"), isFile("c", "a", "x"), isFile("d", "b", "y"), isFile("e", "e", "x"), isFile("f", "a", "x")},
		file("a", "x"), file("b", "y"), hard("c", "a"), hard("d", "b"), file("e", "x"), hard("f", "a"))
	packs(t, []api.Node{isDir("a"), isFile("b", "b", ""), isSym("c", "d"), isFile("d", "b", "")}, dir("a"), file("b", ""), sym("c", "d"), hard("d", "b"))
	one, two := isFile("a", "a", "x"), isFile("b", "a", "x")
	one.Meta, two.Meta = meta, meta
	packs(t, []api.Node{one, two}, api.Member{Path: "a", Kind: api.File, Meta: meta, Body: []byte("x")}, api.Member{Path: "b", Target: "a", Kind: api.Hard, Meta: meta})
}

// P12.1: trees of all kinds, of long paths and bodies, of many nodes, against a model.
func TestPackTrees(t *testing.T) {
	for at := range strange() {
		packsAs(t, strange()[:at], packed(strange()[:at]))
	}
	body := strings.Repeat("b", api.MaxBody)
	large := []api.Node{isFile("a", "a", body), isFile("b", "b", body[1:]), isFile("c", "a", body)}
	for _, list := range [][]api.Node{mixed(), strange(), large} {
		packsAs(t, list, packed(list))
	}
	for n := range 40 {
		for names := 1; names < 5; names++ {
			packsAs(t, grown(n, names), packed(grown(n, names)))
		}
	}
	for _, names := range []int{1, 3} {
		packsAs(t, grown(api.MaxItems, names), packed(grown(api.MaxItems, names)))
	}
}

// P12.1: what another program reads in an archive of a tree.
func TestPackTar(t *testing.T) {
	for _, list := range [][]api.Node{mixed(), strange(), grown(300, 3)} {
		b, _ := emit.Pack(list)
		read := tar.NewReader(bytes.NewReader(b))
		for _, x := range list {
			h, err := read.Next()
			if err != nil {
				t.Fatal(err)
			}
			kind, link, want := byte(x.Kind), x.Target, string(x.Body)
			if x.Leader != "" && x.Leader != x.Path {
				kind, link, want = tar.TypeLink, x.Leader, ""
			}
			body, err := io.ReadAll(read)
			if h.Name != x.Path || h.Typeflag != kind || h.Linkname != link || string(body) != want || err != nil {
				t.Errorf("%q %q to %q, %d bytes, %v", h.Typeflag, h.Name, h.Linkname, len(body), err)
			}
			if got := (api.Meta{Mode: int(h.Mode), UID: h.Uid, GID: h.Gid, Time: int(h.ModTime.Unix())}); got != x.Meta {
				t.Errorf("%q: %v, want %v", x.Path, got, x.Meta)
			}
		}
		if _, err := read.Next(); err != io.EOF {
			t.Error(err)
		}
	}
}

// changes are things done to a node of a tree, after each of which the tree is not good, whichever node of mixed it is done to.
func changes() []func(x *api.Node) {
	long := strings.Repeat("p", 201)
	list := []func(x *api.Node){
		func(x *api.Node) { *x = api.Node{} }, func(x *api.Node) { x.Kind = 0 }, func(x *api.Node) { x.Kind = api.Hard }, func(x *api.Node) { x.Kind, x.Target, x.Leader, x.Body = api.Hard, "b", "", nil },
		func(x *api.Node) { x.Kind = '7' }, func(x *api.Node) { x.Kind = 'x' }, func(x *api.Node) { x.Leader = "z" }, func(x *api.Node) { x.Leader = "a" }, func(x *api.Node) { x.Leader = "\xff" }, func(x *api.Node) { x.Leader = "./" + x.Path },
		func(x *api.Node) { x.Body = make([]byte, api.MaxBody+1) },
	}
	for _, path := range []string{"", "/", ".", "..", "\xff", "\x00", "a/../b", long} {
		list = append(list, func(x *api.Node) { x.Path = path })
	}
	for _, bad := range []api.Meta{{Mode: -1}, {Mode: api.MaxMode + 1}, {UID: -1}, {UID: api.MaxID}, {GID: -1}, {GID: api.MaxID}, {Time: -1}, {Time: api.MaxTime + 1}} {
		list = append(list, func(x *api.Node) { x.Meta = bad })
	}
	return list
}

// P12.1: trees that are not good: in a node, wherever it stands.
func TestPackNotGood(t *testing.T) {
	for at := range mixed() {
		for _, change := range changes() {
			list := mixed()
			change(&list[at])
			refuses(t, list)
		}
		list := mixed()
		list[at].Path += "/"
		refuses(t, list)
		list = mixed()
		list[at].Path = "./" + list[at].Path
		refuses(t, list)
	}
	for _, x := range []api.Node{
		{Path: "a", Kind: api.File}, {Path: "a", Kind: api.Sym}, {Path: "a", Kind: api.Sym, Target: "b", Leader: "a"}, {Path: "a", Kind: api.Dir, Leader: "a"},
		{Path: "a", Kind: api.Dir, Target: "b"}, {Path: "a", Leader: "a", Kind: api.File, Target: "b"}, {Path: "a", Kind: api.Dir, Body: []byte("x")}, {Path: "a", Target: "b", Kind: api.Sym, Body: []byte("x")},
		isSym("a", "\xff"), isSym("a", "\x00"), isSym("a", strings.Repeat("t", 201)), {Path: "a", Target: "a", Kind: api.Hard}, {Path: "a", Target: "a", Leader: "a", Kind: api.Hard},
	} {
		refuses(t, []api.Node{x})
		refuses(t, []api.Node{x, isDir("b")})
		refuses(t, []api.Node{isDir("A"), x})
	}
}

// P12.1: trees whose nodes are good, but are not in order, are too many, or have leaders that may not be.
func TestPackNoTree(t *testing.T) {
	for i := range mixed() {
		for j := range i {
			list := mixed()
			list[i], list[j] = list[j], list[i]
			refuses(t, list)
		}
		refuses(t, slices.Insert(mixed(), i, mixed()[i]))
	}
	refuses(t, []api.Node{isDir("a"), isDir("a")})
	refuses(t, []api.Node{isDir("a/b"), isDir("a.b")})
	refuses(t, []api.Node{isFile("a", "a", "x"), isFile("a", "a", "x")})
	refuses(t, []api.Node{isFile("a", "b", "x"), isFile("b", "b", "x")})
	refuses(t, []api.Node{isFile("a", "a", "x"), isFile("b", "a", "y")})
	refuses(t, []api.Node{isFile("a", "a", "x"), isFile("b", "a", "")})
	refuses(t, []api.Node{isFile("a", "a", "x"), isFile("b", "a", "x"), isFile("c", "b", "x")})
	refuses(t, []api.Node{isDir("a"), isFile("b", "a", "")})
	other := isFile("b", "a", "x")
	other.Meta.Time = 1
	refuses(t, []api.Node{isFile("a", "a", "x"), other})
	for _, n := range []int{api.MaxItems + 1, 2 * api.MaxItems} {
		refuses(t, grown(n, 3))
		refuses(t, grown(n, 1))
	}
}

// P12.1 with R4: what is handed in is not changed, spare room included, nor kept; answers are new memory.
func TestPackMemory(t *testing.T) {
	list := append(mixed(), isDir("room"))
	room := []byte("abcroom")
	list[1].Body, list[3].Body, list[6].Body = room[:3], room[:3:3], room[:3]
	list[0].Body, list[5].Body = room[:0], room[:0]
	one, _ := emit.Pack(list[:len(mixed())])
	two, _ := emit.Pack(list[:len(mixed())])
	clear(one[:cap(one)])
	if string(room) != "abcroom" || !slices.EqualFunc(list, append(mixed(), isDir("room")), sameNode) {
		t.Errorf("changed: %q, %s", room, toldTree(list))
	}
	clear(room)
	clear(list)
	if !bytes.Equal(two, packed(mixed())) {
		t.Error("kept, or shared")
	}
}

// P12.2: Pack of a tree is the same bytes, whichever archive it came from: in any order of its paths, with what is laid over, with links by any name.
func TestPackSame(t *testing.T) {
	pick := rand.New(rand.NewSource(12))
	for _, list := range [][]api.Node{mixed(), strange(), grown(200, 3)} {
		order := make([]string, len(list))
		for i, x := range list {
			order[i] = x.Path
		}
		for range 50 {
			pick.Shuffle(len(order), func(i, j int) { order[i], order[j] = order[j], order[i] })
			members, _ := links.Members(list, order)
			// What is laid over, and a link to itself, say nothing.
			first := members[0]
			if first.Kind == api.File {
				members = append(members, hard(first.Path, first.Path))
			}
			members = append([]api.Member{file(order[0], "old"), hard(order[1], order[0]), sym(order[2], "old")}, members...)
			b := archive(t, members...)
			got, f := emit.Unpack(append(b, make([]byte, pick.Intn(2000))...), []int{pick.Intn(700)})
			if f != (api.Fault{}) || !slices.EqualFunc(got, list, sameNode) {
				t.Fatalf("Unpack: %v, %s, want %s", f, toldTree(got), toldTree(list))
			}
			packsAs(t, got, packed(list))
		}
	}
	if list := mixed(); !tree.Same(list, mixed()) {
		t.Error("changed")
	}
}
