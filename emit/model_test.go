package emit_test

import (
	"bytes"
	"fmt"
	"math/rand"
	"slices"
	"strings"
	"testing"

	"bindle/api"
	"bindle/tree"
	"bindle/write"
)

// meta is good meta data without a 0.
var meta = api.Meta{Mode: 0o644, UID: 1000, GID: 50, Time: 1234567890}

// most is meta data as large as it may be, so it goes into records.
var most = api.Meta{Mode: api.MaxMode, UID: api.MaxID - 1, GID: api.MaxID - 1, Time: api.MaxTime}

// isFile is a file as a node.
func isFile(path, leader, body string) api.Node {
	return api.Node{Path: path, Leader: leader, Kind: api.File, Body: []byte(body)}
}

// isSym is a symbolic link as a node.
func isSym(path, target string) api.Node {
	return api.Node{Path: path, Target: target, Kind: api.Sym}
}

// isDir is a folder as a node.
func isDir(path string) api.Node {
	return api.Node{Path: path, Kind: api.Dir}
}

// file is a file as a member.
func file(path, body string) api.Member {
	return api.Member{Path: path, Kind: api.File, Body: []byte(body)}
}

// hard is a hard link as a member.
func hard(path, target string) api.Member {
	return api.Member{Path: path, Target: target, Kind: api.Hard}
}

// sym is a symbolic link as a member.
func sym(path, target string) api.Member {
	return api.Member{Path: path, Target: target, Kind: api.Sym}
}

// dir is a folder as a member.
func dir(path string) api.Member {
	return api.Member{Path: path, Kind: api.Dir}
}

// mixed is a good tree of all kinds: files b, d, f of one class, with meta data of its own; c, with the same content, of none; e.f, g, h/i of one of nothing.
func mixed() []api.Node {
	list := []api.Node{
		isDir("a"), isFile("b", "b", "abc"), isFile("c", "c", "abc"), isFile("d", "b", "abc"), isSym("e", "../b"),
		isFile("e.f", "e.f", ""), isFile("f", "b", "abc"), isFile("g", "e.f", ""), isFile("h/i", "e.f", ""),
	}
	for i := range list {
		list[i].Meta = meta
		switch list[i].Leader {
		case "":
			list[i].Meta.Time = i
		case "e.f":
			list[i].Meta = most
		}
	}
	return list
}

// strange is a good tree of paths and texts that go into records, and of bodies at a block's edges.
func strange() []api.Node {
	long := func(s string) string { return strings.Repeat(s, api.MaxPath) }
	list := []api.Node{
		isFile("a", "a", strings.Repeat("x", 511)), isDir("a b"), isFile("a/b", "a/b", strings.Repeat("x", 512)), isSym("a/b/c", "/../a"),
		isFile("b", "b", strings.Repeat("\x00", 513)), isFile(long("p"), "b", strings.Repeat("\x00", 513)), isSym(long("q"), long("t")),
		isFile("\u00e9", "\u00e9", ""), isSym("\u4e2d", "\u00e9"), isDir(strings.Repeat("\U0001f600", api.MaxPath/4)),
	}
	list[0].Meta = meta
	list[9].Meta = most
	return list
}

// grown is a good tree of n nodes: every third one is a Sym or a Dir, the files are of classes of up to so many names; four classes at a time stand in one another.
func grown(n, names int) []api.Node {
	list := make([]api.Node, n)
	// Of each file so far, where its leader stands.
	var leads []int
	for i := range list {
		list[i] = isDir(fmt.Sprintf("%06d", i))
		list[i].Meta = api.Meta{Mode: i % 4096, UID: i}
		switch {
		case i%6 == 2:
			list[i].Kind, list[i].Target = api.Sym, fmt.Sprint(i)
		case i%3 != 2:
			leader := i
			if n := len(leads); n >= 4 && n/4%names != 0 {
				leader = leads[n-4]
			}
			leads = append(leads, leader)
			list[i] = isFile(list[i].Path, list[leader].Path, fmt.Sprint(leader/100))
			list[i].Meta = api.Meta{Time: leader / 100}
		}
	}
	return list
}

// drawn are members of all kinds at few paths, as a source draws them; links may go to what is no file.
func drawn(pick *rand.Rand, n int) []api.Member {
	paths := []string{"a", "a b", "a.b", "a/b", "b", "b/c", "c", "\u00e9"}
	one := func() string { return paths[pick.Intn(len(paths))] }
	var list []api.Member
	for range n {
		m := dir(one())
		switch pick.Intn(8) {
		case 0:
			m = sym(one(), one())
		case 1, 2, 3, 4:
			m = file(one(), strings.Repeat(one(), pick.Intn(3)))
		case 5, 6:
			m = hard(one(), one())
		}
		m.Meta = api.Meta{Mode: pick.Intn(4), Time: pick.Intn(2)}
		list = append(list, m)
	}
	return list
}

// sameNode tells whether two nodes are the same in all fields.
func sameNode(a, b api.Node) bool {
	return a.Path == b.Path && a.Target == b.Target && a.Leader == b.Leader && a.Kind == b.Kind && a.Meta == b.Meta && string(a.Body) == string(b.Body)
}

// told is what a failure tells of members.
func told(list []api.Member) string {
	s := fmt.Sprint(len(list), " members")
	for _, m := range list[:min(len(list), 10)] {
		s += fmt.Sprintf("; %q %.50q to %.50q %v %.20q", m.Kind, m.Path, m.Target, m.Meta, m.Body)
	}
	return s
}

// toldTree is what a failure tells of a tree.
func toldTree(list []api.Node) string {
	s := fmt.Sprint(len(list), " nodes")
	for _, x := range list[:min(len(list), 10)] {
		s += fmt.Sprintf("; %q %.50q to %.50q leader %.50q %v %.20q", x.Kind, x.Path, x.Target, x.Leader, x.Meta, x.Body)
	}
	return s
}

// archive is an archive of good members.
func archive(t *testing.T, list ...api.Member) []byte {
	t.Helper()
	b, e := write.Archive(list)
	if e != api.OK {
		t.Fatalf("Archive of %s: %d", told(list), e)
	}
	return b
}

// packed is Pack once more: of each node its member's bytes, of a class the leader is the File.
func packed(list []api.Node) []byte {
	var b []byte
	for _, x := range list {
		m := api.Member{Path: x.Path, Target: x.Target, Kind: x.Kind, Meta: x.Meta, Body: x.Body}
		if x.Kind == api.File && x.Leader != x.Path {
			m.Kind, m.Target, m.Body = api.Hard, x.Leader, nil
		}
		one, _ := write.Put(m)
		b = append(b, one...)
	}
	return append(b, make([]byte, 1024)...)
}

// inode is what a path stands for in the model: of files, one with all names of its content.
type inode struct {
	m     api.Member
	names []string
}

// modelFold is the tree of good members once more: each class keeps its names.
func modelFold(list []api.Member) ([]api.Node, api.Fault) {
	all := map[string]*inode{}
	for i, m := range list {
		now := &inode{m: m}
		if m.Kind == api.Hard {
			now = all[m.Target]
			if now == nil || now.m.Kind != api.File {
				return nil, api.Fault{E: api.ErrLink, At: i}
			}
		}
		if was := all[m.Path]; was != nil {
			was.names = slices.DeleteFunc(was.names, func(s string) bool { return s == m.Path })
		}
		now.names = append(now.names, m.Path)
		all[m.Path] = now
	}
	var nodes []api.Node
	for path, is := range all {
		x := api.Node{Path: path, Target: is.m.Target, Kind: is.m.Kind, Meta: is.m.Meta, Body: bytes.Clone(is.m.Body)}
		if x.Kind == api.File {
			x.Leader = slices.Min(is.names)
		}
		nodes = append(nodes, x)
	}
	slices.SortFunc(nodes, func(a, b api.Node) int { return strings.Compare(a.Path, b.Path) })
	return nodes, api.Fault{}
}

// TestTrees looks whether the trees of the tests are good.
func TestTrees(t *testing.T) {
	for _, list := range [][]api.Node{mixed(), strange(), grown(100, 1), grown(100, 3), grown(api.MaxItems, 5)} {
		if !tree.Good(list) {
			t.Error("not good: " + toldTree(list))
		}
	}
}
