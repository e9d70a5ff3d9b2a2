package tree_test

import (
	"bytes"
	"fmt"
	"slices"
	"strings"
	"testing"

	"bindle/api"
	"bindle/tree"
)

// plain is a good tree of all kinds: files b, d, f of one class; c, with the same content, of none.
func plain() []api.Node {
	node := func(path, leader, target string, kind byte, body string) api.Node {
		return api.Node{Path: path, Leader: leader, Target: target, Kind: kind, Meta: meta, Body: []byte(body)}
	}
	return []api.Node{
		node("a", "", "", api.Dir, ""), node("b", "b", "", api.File, "abc"), node("c", "c", "", api.File, "abc"), node("d", "b", "", api.File, "abc"),
		node("e", "", "../b", api.Sym, ""), node("f", "b", "", api.File, "abc"), node("g", "g", "", api.File, ""), node("h/i", "g", "", api.File, ""),
	}
}

// Where nodes stand in plain.
const (
	atDir = iota
	atLeader
	atAlone
	atLed
	atSym
	atLast
	atEmpty
	atEmptyLed
)

// isGood expects Good to answer so of the plain tree, changed.
func isGood(t *testing.T, want bool, what string, change func(list []api.Node) []api.Node) {
	t.Helper()
	list := change(plain())
	if got := tree.Good(list); got != want {
		t.Errorf("Good, %s: %v, of %s", what, got, toldAll(list))
	}
	for _, x := range list {
		if _, there := tree.Find(list, x.Path); there != want {
			t.Errorf("Find of %q, %s: %v, of %s", x.Path, what, there, toldAll(list))
		}
	}
}

// nodeIs expects Good to answer so of the plain tree with one node changed.
func nodeIs(t *testing.T, want bool, at int, change func(x *api.Node)) {
	t.Helper()
	list := plain()
	change(&list[at])
	isGood(t, want, "node "+told(list[at]), func([]api.Node) []api.Node { return list })
}

// P10.2: the plain tree, parts of it, and nothing.
func TestGood(t *testing.T) {
	for _, list := range [][]api.Node{nil, {}} {
		if !tree.Good(list) {
			t.Error("nothing is not good")
		}
	}
	isGood(t, true, "plain", func(list []api.Node) []api.Node { return list })
	for at := range plain() {
		isGood(t, true, "its beginning", func(list []api.Node) []api.Node { return list[:at] })
		isGood(t, at != atLeader && at != atEmpty, "without one", func(list []api.Node) []api.Node { return slices.Delete(list, at, at+1) })
		isGood(t, at == atDir || at == atLeader || at == atEmpty, "its end", func(list []api.Node) []api.Node { return list[at:] })
	}
}

// P10.2: paths rise, none is there twice, and none has to be there for another one.
func TestGoodOrder(t *testing.T) {
	for at := range plain() {
		isGood(t, false, "twice", func(list []api.Node) []api.Node { return slices.Insert(list, at, list[at]) })
		isGood(t, at == 0, "turned", func(list []api.Node) []api.Node {
			list[at], list[0] = list[0], list[at]
			return list
		})
	}
	isGood(t, false, "in reverse", func(list []api.Node) []api.Node {
		slices.Reverse(list)
		return list
	})
	paths := []string{"\x01", "A", "a", "a b", "a-", "a.b", "a/b", "a/b/c", "a0", "aa", "b", "b/\x7f", "b/\u0080", "b/\u00ff", "b/\uffff", "b/\U0010ffff"}
	for i, a := range paths {
		for j, b := range paths {
			isGood(t, i < j, "two files", func([]api.Node) []api.Node { return []api.Node{isFile(a, a, ""), isFile(b, b, "")} })
			isGood(t, i < j, "two folders", func([]api.Node) []api.Node { return []api.Node{{Path: a, Kind: api.Dir}, {Path: b, Kind: api.Dir}} })
			isGood(t, i < j, "names of one file", func([]api.Node) []api.Node { return []api.Node{isFile(a, a, "x"), isFile(b, a, "x")} })
			isGood(t, false, "the greater one leads", func([]api.Node) []api.Node { return []api.Node{isFile(a, b, "x"), isFile(b, b, "y")} })
		}
	}
}

// P10.2: each kind that a member may have, but a hard link.
func TestGoodKind(t *testing.T) {
	for kind := range 256 {
		for _, target := range []string{"", "c"} {
			for _, leader := range []string{"", "a"} {
				want := kind == '0' && target == "" && leader == "a" || kind == '5' && target == "" && leader == "" || kind == '2' && target == "c" && leader == ""
				isGood(t, want, "one node", func([]api.Node) []api.Node {
					return []api.Node{{Path: "a", Target: target, Leader: leader, Kind: byte(kind)}}
				})
			}
		}
	}
	for _, leader := range []string{"", "b", "c", "d"} {
		nodeIs(t, false, atLed, func(x *api.Node) { *x = api.Node{Path: "d", Target: "b", Leader: leader, Kind: api.Hard, Meta: meta} })
	}
}

// P10.2: a node that is not good as a member.
func TestGoodMember(t *testing.T) {
	for _, m := range wrong() {
		if m.Kind == api.Hard {
			continue
		}
		for _, leader := range []string{"", m.Path} {
			list := []api.Node{{Path: m.Path, Target: m.Target, Leader: leader, Kind: m.Kind, Meta: m.Meta, Body: m.Body}}
			isGood(t, false, "not a good member", func([]api.Node) []api.Node { return list })
		}
	}
	longest := strings.Repeat("p", api.MaxPath)
	body := make([]byte, api.MaxBody)
	nodeIs(t, true, atEmptyLed, func(x *api.Node) { x.Path = longest })
	nodeIs(t, false, atEmptyLed, func(x *api.Node) { x.Path = longest + "p" })
	nodeIs(t, true, atSym, func(x *api.Node) { x.Target = longest })
	nodeIs(t, true, atSym, func(x *api.Node) { x.Target = "//" })
	nodeIs(t, false, atSym, func(x *api.Node) { x.Target = longest + "t" })
	nodeIs(t, false, atSym, func(x *api.Node) { x.Target = "" })
	nodeIs(t, true, atAlone, func(x *api.Node) { x.Body = body })
	nodeIs(t, false, atAlone, func(x *api.Node) { x.Body = append(body, 0) })
	nodeIs(t, true, atDir, func(x *api.Node) { x.Meta = api.Meta{Mode: 4095, UID: 1<<31 - 1, GID: 1<<31 - 1, Time: 1 << 40} })
	for at := range plain() {
		nodeIs(t, false, at, func(x *api.Node) { x.Path += "/" })
		if at != atSym {
			nodeIs(t, false, at, func(x *api.Node) { x.Target = "a" })
		}
		if at == atDir || at == atSym {
			nodeIs(t, false, at, func(x *api.Node) { x.Body = []byte("abc") })
		}
		for _, m := range wrongMeta() {
			nodeIs(t, false, at, func(x *api.Node) { x.Meta = m })
		}
	}
}

// P10.2: Leader is empty but of files.
func TestGoodNoLeader(t *testing.T) {
	for _, at := range []int{atDir, atSym} {
		for _, leader := range []string{"a", "b", "e", "z", "\xff", "\x00", "/"} {
			nodeIs(t, false, at, func(x *api.Node) { x.Leader = leader })
		}
	}
	for _, at := range []int{atLeader, atAlone, atLed, atLast, atEmpty, atEmptyLed} {
		for _, leader := range []string{"", "\x00", "/", "B", "bb", "b/", "./b", "h", "z", "a", "e"} {
			nodeIs(t, false, at, func(x *api.Node) { x.Leader = leader })
		}
	}
}

// P10.2: a leader leads itself, with a path that is not greater.
func TestGoodLeader(t *testing.T) {
	nodeIs(t, true, atLed, func(x *api.Node) { x.Leader = "d" })
	nodeIs(t, true, atLed, func(x *api.Node) { x.Leader = "c" })
	nodeIs(t, false, atLed, func(x *api.Node) { x.Leader = "f" })
	nodeIs(t, false, atLast, func(x *api.Node) { x.Leader = "d" })
	nodeIs(t, true, atAlone, func(x *api.Node) { x.Leader = "b" })
	nodeIs(t, false, atAlone, func(x *api.Node) { x.Leader = "d" })
	nodeIs(t, false, atLeader, func(x *api.Node) { x.Leader = "c" })
	nodeIs(t, false, atLeader, func(x *api.Node) { x.Leader = "d" })
	nodeIs(t, true, atEmptyLed, func(x *api.Node) { x.Leader = "h/i" })
	isGood(t, false, "one behind leads", func(list []api.Node) []api.Node {
		for _, at := range []int{atLeader, atLed, atLast} {
			list[at].Leader = "d"
		}
		return list
	})
	isGood(t, false, "two lead each other", func(list []api.Node) []api.Node {
		list[atLeader].Leader, list[atLed].Leader = "d", "b"
		return list
	})
	isGood(t, true, "another class", func(list []api.Node) []api.Node {
		list[atLed].Leader, list[atLast].Leader = "d", "d"
		return list
	})
}

// P10.2: all of a class have the same Meta and Body; others need not, and may.
func TestGoodClass(t *testing.T) {
	for i := range 4 {
		change := func(x *api.Node) { *[]*int{&x.Meta.Mode, &x.Meta.UID, &x.Meta.GID, &x.Meta.Time}[i]++ }
		for at := range plain() {
			nodeIs(t, at == atDir || at == atAlone || at == atSym, at, change)
		}
		isGood(t, true, "other meta data of all", func(list []api.Node) []api.Node {
			for _, at := range []int{atLeader, atLed, atLast} {
				change(&list[at])
			}
			return list
		})
	}
	for _, body := range []string{"", "ab", "abcd", "abC", "\x00abc"} {
		for _, at := range []int{atLeader, atAlone, atLed, atLast} {
			nodeIs(t, at == atAlone, at, func(x *api.Node) { x.Body = []byte(body) })
		}
	}
	for _, at := range []int{atEmpty, atEmptyLed} {
		nodeIs(t, true, at, func(x *api.Node) { x.Body = nil })
		nodeIs(t, true, at, func(x *api.Node) { x.Body = make([]byte, 0, 9) })
		nodeIs(t, false, at, func(x *api.Node) { x.Body = []byte{0} })
	}
}

// P10.2: as many nodes as there may be, and more.
func TestGoodMany(t *testing.T) {
	for _, kind := range kinds {
		for _, n := range []int{api.MaxItems - 1, api.MaxItems, api.MaxItems + 1, 3 * api.MaxItems} {
			list := make([]api.Node, n)
			for i := range list {
				list[i] = api.Node{Path: fmt.Sprintf("%06d", i), Kind: kind}
				switch kind {
				case api.File:
					list[i].Leader = fmt.Sprintf("%06d", i/7*7)
				case api.Sym:
					list[i].Target = "t"
				}
			}
			if got := tree.Good(list); got != (n <= api.MaxItems) {
				t.Errorf("Good of %d nodes: %v", n, got)
			}
			x, there := tree.Find(list, "000007")
			if there != (n <= api.MaxItems) || there && !sameNode(x, list[7]) {
				t.Errorf("Find among %d nodes: %v, %s", n, there, told(x))
			}
			list[n-1].Path += "/"
			if tree.Good(list) {
				t.Errorf("Good of %d nodes, the last one wrong", n)
			}
		}
	}
}

// P10.2 with R4: what is handed in is not changed, spare room included.
func TestGoodKeepsArguments(t *testing.T) {
	list := append(plain(), api.Node{Path: "room"})
	room := []byte("abcroom")
	list[atLed].Body = room[:3]
	head := list[:len(list)-1]
	for range 2 {
		if !tree.Good(head) || !tree.Same(head, plain()) || !tree.Equal(head[atLed], plain()[atLed]) {
			t.Error(toldAll(head))
		}
		tree.Find(head, "d")
	}
	if string(room) != "abcroom" || !slices.EqualFunc(list, append(plain(), api.Node{Path: "room"}), sameNode) {
		t.Errorf("changed: %q, %s", room, toldAll(list))
	}
	if !bytes.Equal(list[atLed].Body, []byte("abc")) {
		t.Error("changed")
	}
}
