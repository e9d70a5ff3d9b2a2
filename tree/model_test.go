package tree_test

import (
	"bytes"
	"fmt"
	"math/rand"
	"slices"
	"strings"
	"testing"

	"bindle/api"
	"bindle/tree"
)

// kinds are the kinds that a node may have.
var kinds = []byte{api.File, api.Sym, api.Dir}

// file is a file as a member.
func file(path, body string) api.Member {
	return api.Member{Path: path, Kind: api.File, Body: []byte(body)}
}

// hard is a hard link as a member.
func hard(path, target string) api.Member {
	return api.Member{Path: path, Target: target, Kind: api.Hard}
}

// sym is a symbolic link as a member.
func sym(path, target string) api.Member {
	return api.Member{Path: path, Target: target, Kind: api.Sym}
}

// dir is a folder as a member.
func dir(path string) api.Member {
	return api.Member{Path: path, Kind: api.Dir}
}

// isFile is a file as a node.
func isFile(path, leader, body string) api.Node {
	return api.Node{Path: path, Leader: leader, Kind: api.File, Body: []byte(body)}
}

// told is what a failure tells of a node.
func told(x api.Node) string {
	return fmt.Sprintf("%.210q target %.210q leader %.210q kind %q %v %.20q (%d bytes)", x.Path, x.Target, x.Leader, x.Kind, x.Meta, x.Body, len(x.Body))
}

// toldAll is what a failure tells of a tree.
func toldAll(list []api.Node) string {
	s := fmt.Sprint(len(list), " nodes")
	for _, x := range list[:min(len(list), 10)] {
		s += "; " + told(x)
	}
	return s
}

// toldList is what a failure tells of members.
func toldList(list []api.Member) string {
	s := fmt.Sprint(len(list), " members")
	for _, m := range list[:min(len(list), 10)] {
		s += fmt.Sprintf("; %q %.50q to %.50q %v %.20q", m.Kind, m.Path, m.Target, m.Meta, m.Body)
	}
	return s
}

// sameNode tells whether two nodes are the same in all fields.
func sameNode(a, b api.Node) bool {
	return a.Path == b.Path && a.Target == b.Target && a.Leader == b.Leader && a.Kind == b.Kind && a.Meta == b.Meta && string(a.Body) == string(b.Body)
}

// folds expects Fold to answer this tree, and the calls on trees to say so of it.
func folds(t *testing.T, list []api.Member, want ...api.Node) {
	t.Helper()
	got, f := tree.Fold(list)
	if f != (api.Fault{}) || !slices.EqualFunc(got, want, sameNode) {
		t.Errorf("Fold of %s: %v, %s, want %s", toldList(list), f, toldAll(got), toldAll(want))
		return
	}
	if len(got) <= api.MaxItems && !tree.Good(got) || !tree.Same(got, want) {
		t.Errorf("Fold of %s is not good, or not the same: %s", toldList(list), toldAll(got))
	}
}

// faults expects Fold to answer a fault, and nothing beside it.
func faults(t *testing.T, list []api.Member, e api.Errno, at int) {
	t.Helper()
	got, f := tree.Fold(list)
	if f != (api.Fault{E: e, At: at}) || len(got) != 0 {
		t.Errorf("Fold of %s: %v, %s, want %d at %d", toldList(list), f, toldAll(got), e, at)
	}
}

// inode is what a path stands for in the model: of files, one with all names of its content.
type inode struct {
	m     api.Member
	names []string
}

// modelFold is Fold of good members once more: each class keeps its names.
func modelFold(list []api.Member) ([]api.Node, api.Fault) {
	all := map[string]*inode{}
	for i, m := range list {
		now := &inode{m: m}
		if m.Kind == api.Hard {
			now = all[m.Target]
			if now == nil || now.m.Kind != api.File {
				return nil, api.Fault{E: api.ErrLink, At: i}
			}
		}
		if was := all[m.Path]; was != nil {
			was.names = slices.DeleteFunc(was.names, func(s string) bool { return s == m.Path })
		}
		now.names = append(now.names, m.Path)
		all[m.Path] = now
	}
	var nodes []api.Node
	for path, is := range all {
		x := api.Node{Path: path, Target: is.m.Target, Kind: is.m.Kind, Meta: is.m.Meta, Body: bytes.Clone(is.m.Body)}
		if x.Kind == api.File {
			x.Leader = slices.Min(is.names)
		}
		nodes = append(nodes, x)
	}
	slices.SortFunc(nodes, func(a, b api.Node) int { return strings.Compare(a.Path, b.Path) })
	return nodes, api.Fault{}
}

// asModel expects Fold to answer what the model does.
func asModel(t *testing.T, list []api.Member) {
	t.Helper()
	if want, f := modelFold(list); f.E != api.OK {
		faults(t, list, f.E, f.At)
	} else {
		folds(t, list, want...)
	}
}

// choices are members of all kinds at these paths, and of one body.
func choices(body string, paths ...string) []api.Member {
	var list []api.Member
	for _, path := range paths {
		list = append(list, file(path, body), sym(path, body), dir(path))
		for _, target := range paths {
			list = append(list, hard(path, target))
		}
	}
	return list
}

// P10.1: all lists of up to four members at three paths.
func TestFoldAll(t *testing.T) {
	var lists func(list []api.Member)
	lists = func(list []api.Member) {
		asModel(t, list)
		if len(list) == 4 || t.Failed() {
			return
		}
		for _, m := range choices("body "+string(rune('0'+len(list))), "a", "b", "c") {
			lists(append(slices.Clone(list), m))
		}
	}
	lists(nil)
}

// P10.1: long lists.
func TestFoldLong(t *testing.T) {
	paths := []string{"a", "b", "a/b", "a.b", "a/b/c", "\u00e9", "z", "Z", "a-", strings.Repeat("p", 200)}
	pick := rand.New(rand.NewSource(10))
	for round := range 3000 {
		// Files first, so that most links go somewhere.
		var list []api.Member
		for i, path := range paths[:1+round%len(paths)] {
			m := file(path, fmt.Sprint(i))
			m.Meta = api.Meta{Mode: i, UID: round, GID: 7, Time: 1 << i}
			list = append(list, m)
		}
		for i := range pick.Intn(40) {
			all := choices(fmt.Sprint("body ", i), paths[:1+round%len(paths)]...)
			m := all[pick.Intn(len(all))]
			m.Meta = api.Meta{Mode: i, Time: round}
			list = append(list, m)
		}
		asModel(t, list)
	}
}
