package tree_test

import (
	"math"
	"slices"
	"strings"
	"testing"

	"bindle/api"
	"bindle/tree"
)

// others are nodes, good ones or not, of which each is another one than all the others, whatever Leader is.
func others() []api.Node {
	list := []api.Node{
		{}, {Path: "a"}, {Path: "A"}, {Path: "a\x00"}, {Path: "\xff"}, {Target: "a"}, {Target: "A"}, {Kind: api.File}, {Kind: api.Hard}, {Kind: api.Sym}, {Kind: api.Dir}, {Kind: 255},
		{Meta: api.Meta{Mode: 1}}, {Meta: api.Meta{UID: 1}}, {Meta: api.Meta{GID: 1}}, {Meta: api.Meta{Time: 1}},
		{Meta: api.Meta{Mode: -1}}, {Meta: api.Meta{UID: math.MinInt}}, {Meta: api.Meta{GID: math.MaxInt}}, {Meta: api.Meta{Time: 1 << 40}},
		{Body: []byte("a")}, {Body: []byte("A")}, {Body: []byte("ab")}, {Body: []byte("aa")}, {Body: []byte{0}}, {Body: []byte{0, 0}},
	}
	x := plain()[atLed]
	x.Body = []byte(strings.Repeat("c", 2000))
	list = append(list, x)
	for _, at := range []int{0, 1000, 1999} {
		x.Body = slices.Clone(x.Body)
		x.Body[at] ^= 1
		list = append(list, x)
	}
	return append(list, plain()...)
}

// copied is the same node in new memory.
func copied(x api.Node) api.Node {
	x.Path, x.Target, x.Leader = strings.Clone(x.Path), strings.Clone(x.Target), strings.Clone(x.Leader)
	x.Body = slices.Clone(x.Body)
	return x
}

// P10.2: nodes are equal just where they have the same in all fields but Leader; trees are the same where they have the same in that, too.
func TestEqual(t *testing.T) {
	list := others()
	for i, a := range list {
		for j, b := range list {
			b = copied(b)
			if got := tree.Equal(a, b); got != (i == j) {
				t.Errorf("Equal(%s, %s): %v", told(a), told(b), got)
			}
			if got := tree.Same([]api.Node{a}, []api.Node{b}); got != (i == j) {
				t.Errorf("Same of %s, %s: %v", told(a), told(b), got)
			}
			b.Leader += "z"
			if got := tree.Equal(a, b); got != (i == j) {
				t.Errorf("Equal(%s, %s): %v", told(a), told(b), got)
			}
			if got := tree.Same([]api.Node{a}, []api.Node{b}); got {
				t.Errorf("Same of %s, %s: %v", told(a), told(b), got)
			}
		}
	}
}

// P10.2: nil and empty bodies are the same, and room behind a body counts for nothing.
func TestEqualBody(t *testing.T) {
	room := []byte("abcxyz")
	for _, x := range []struct{ a, b []byte }{
		{nil, nil}, {nil, []byte{}}, {[]byte{}, nil}, {nil, room[:0]}, {room[:0], []byte{}}, {room[:3], []byte("abc")}, {[]byte("abc"), room[:3:3]},
	} {
		for _, a := range plain() {
			b := a
			a.Body, b.Body = x.a, x.b
			if !tree.Equal(a, b) || !tree.Same([]api.Node{a}, []api.Node{b}) {
				t.Errorf("%s, %s are not the same", told(a), told(b))
			}
		}
	}
}

// isSame expects Same to answer so, both ways.
func isSame(t *testing.T, want bool, a, b []api.Node) {
	t.Helper()
	if tree.Same(a, b) != want || tree.Same(b, a) != want {
		t.Errorf("Same of %s, and %s: not %v", toldAll(a), toldAll(b), want)
	}
}

// P10.2: trees of other lengths, in other orders, with another node anywhere; good ones or not.
func TestSame(t *testing.T) {
	isSame(t, true, nil, nil)
	isSame(t, true, nil, []api.Node{})
	isSame(t, true, nil, plain()[:0])
	isSame(t, true, plain(), plain())
	isSame(t, false, nil, []api.Node{{}})
	isSame(t, true, slices.Repeat(plain(), 2), slices.Repeat(plain(), 2))
	for at := range plain() {
		isSame(t, false, plain(), plain()[:at])
		isSame(t, true, plain()[:at], plain()[:at])
		isSame(t, at == 0, plain(), plain()[at:])
		isSame(t, false, plain(), slices.Delete(plain(), at, at+1))
		turned := slices.Concat(plain()[at:], plain()[:at])
		isSame(t, at == 0, plain(), turned)
		isSame(t, true, turned, slices.Clone(turned))
		for _, change := range []func(x *api.Node){
			func(x *api.Node) { x.Path += "/" }, func(x *api.Node) { x.Target += "/" }, func(x *api.Node) { x.Leader += "/" }, func(x *api.Node) { x.Leader = "d" },
			func(x *api.Node) { x.Kind++ }, func(x *api.Node) { x.Meta.Time++ }, func(x *api.Node) { x.Body = append(x.Body, 0) },
		} {
			list := plain()
			change(&list[at])
			isSame(t, false, plain(), list)
		}
	}
}
