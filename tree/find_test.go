package tree_test

import (
	"fmt"
	"slices"
	"strings"
	"testing"

	"bindle/api"
	"bindle/tree"
)

// finds expects Find to answer this node.
func finds(t *testing.T, list []api.Node, want api.Node) {
	t.Helper()
	if x, there := tree.Find(list, want.Path); !there || !sameNode(x, want) {
		t.Errorf("Find of %q: %s, %v", want.Path, told(x), there)
	}
}

// lacks expects Find to answer that there is none.
func lacks(t *testing.T, list []api.Node, path string) {
	t.Helper()
	if x, there := tree.Find(list, path); there || !sameNode(x, api.Node{}) {
		t.Errorf("Find of %.210q: %s, %v", path, told(x), there)
	}
}

// P10.2: each node of a good tree, and no other path.
func TestFind(t *testing.T) {
	for n := range len(plain()) + 1 {
		list := plain()[:n]
		for _, x := range list {
			finds(t, list, x)
		}
		for _, x := range plain()[n:] {
			lacks(t, list, x.Path)
		}
		for _, path := range []string{"", "/", ".", "A", "a/", "./a", "aa", "a\x00", "bb", "h", "h/", "h/i/", "h/ii", "z", "\x00", "\xff", "\u00e9", strings.Repeat("z", 300)} {
			lacks(t, list, path)
		}
	}
	lacks(t, nil, "a")
	lacks(t, nil, "")
	lacks(t, []api.Node{}, "a")
}

// P10.2: large trees.
func TestFindMany(t *testing.T) {
	list := make([]api.Node, 500)
	for i := range list {
		list[i] = api.Node{Path: fmt.Sprintf("%04d", 2*i), Kind: api.Dir, Meta: api.Meta{Time: i}}
	}
	for i, x := range list {
		finds(t, list, x)
		lacks(t, list, fmt.Sprintf("%04d", 2*i+1))
		lacks(t, list, fmt.Sprintf("%04d/a", 2*i))
	}
}

// P10.2: of a tree that is not good there is nothing, wherever it is wrong.
func TestFindNotGood(t *testing.T) {
	for at := range plain() {
		for _, change := range []func(x *api.Node){
			func(x *api.Node) { x.Path = "" }, func(x *api.Node) { x.Leader += "z" }, func(x *api.Node) { x.Kind = '7' }, func(x *api.Node) { x.Meta.Mode = -1 },
		} {
			list := plain()
			change(&list[at])
			for _, x := range append(list, plain()...) {
				lacks(t, list, x.Path)
			}
		}
		list := slices.Insert(plain(), at, plain()[at])
		for _, x := range list {
			lacks(t, list, x.Path)
		}
	}
	list := plain()
	slices.Reverse(list)
	for _, x := range list {
		lacks(t, list, x.Path)
	}
}

// P10.2 with R4: a node that is found is new memory.
func TestFindMemory(t *testing.T) {
	list := plain()
	room := []byte("abcroom")
	list[atLed].Body = room[:3]
	one, _ := tree.Find(list, "d")
	two, _ := tree.Find(list, "d")
	body := one.Body[:cap(one.Body)]
	for i := range body {
		body[i] = '!'
	}
	if string(room) != "abcroom" || !sameNode(two, plain()[atLed]) {
		t.Errorf("changed by what was answered: %q, %s", room, told(two))
	}
	clear(room)
	clear(list)
	if !sameNode(two, plain()[atLed]) {
		t.Error("kept: " + told(two))
	}
}
