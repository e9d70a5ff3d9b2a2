package links_test

import (
	"fmt"
	"slices"

	"bindle/api"
)

// meta is good meta data without a 0.
var meta = api.Meta{Mode: 0o644, UID: 1000, GID: 50, Time: 1234567890}

// isFile is a file as a node.
func isFile(path, leader, body string) api.Node {
	return api.Node{Path: path, Leader: leader, Kind: api.File, Body: []byte(body)}
}

// isSym is a symbolic link as a node.
func isSym(path, target string) api.Node {
	return api.Node{Path: path, Target: target, Kind: api.Sym}
}

// isDir is a folder as a node.
func isDir(path string) api.Node {
	return api.Node{Path: path, Kind: api.Dir}
}

// file is a file as a member.
func file(path, body string) api.Member {
	return api.Member{Path: path, Kind: api.File, Body: []byte(body)}
}

// hard is a hard link as a member.
func hard(path, target string) api.Member {
	return api.Member{Path: path, Target: target, Kind: api.Hard}
}

// sym is a symbolic link as a member.
func sym(path, target string) api.Member {
	return api.Member{Path: path, Target: target, Kind: api.Sym}
}

// dir is a folder as a member.
func dir(path string) api.Member {
	return api.Member{Path: path, Kind: api.Dir}
}

// mixed is a good tree of all kinds: files b, d, f of one class, with meta data of its own; c, with the same content, of none; g, h/i, e.f of one of nothing.
func mixed() []api.Node {
	list := []api.Node{
		isDir("a"), isFile("b", "b", "abc"), isFile("c", "c", "abc"), isFile("d", "b", "abc"), isSym("e", "../b"),
		isFile("e.f", "e.f", ""), isFile("f", "b", "abc"), isFile("g", "e.f", ""), isFile("h/i", "e.f", ""),
	}
	for i := range list {
		list[i].Meta = meta
		switch list[i].Leader {
		case "":
			list[i].Meta.Time = i
		case "e.f":
			list[i].Meta = api.Meta{Mode: 1, UID: 2, GID: 3, Time: 4}
		}
	}
	return list
}

// paths are the paths of a tree, in its order.
func paths(tree []api.Node) []string {
	var list []string
	for _, x := range tree {
		list = append(list, x.Path)
	}
	return list
}

// sameMember tells whether two members are the same in all fields.
func sameMember(a, b api.Member) bool {
	return a.Path == b.Path && a.Target == b.Target && a.Kind == b.Kind && a.Meta == b.Meta && string(a.Body) == string(b.Body)
}

// sameNode tells whether two nodes are the same in all fields.
func sameNode(a, b api.Node) bool {
	return a.Path == b.Path && a.Target == b.Target && a.Leader == b.Leader && a.Kind == b.Kind && a.Meta == b.Meta && string(a.Body) == string(b.Body)
}

// told is what a failure tells of members.
func told(list []api.Member) string {
	s := fmt.Sprint(len(list), " members")
	for _, m := range list[:min(len(list), 10)] {
		s += fmt.Sprintf("; %q %.50q to %.50q %v %.20q", m.Kind, m.Path, m.Target, m.Meta, m.Body)
	}
	return s
}

// toldTree is what a failure tells of a tree.
func toldTree(tree []api.Node) string {
	s := fmt.Sprint(len(tree), " nodes")
	for _, x := range tree[:min(len(tree), 10)] {
		s += fmt.Sprintf("; %q %.50q to %.50q leader %.50q %v %.20q", x.Kind, x.Path, x.Target, x.Leader, x.Meta, x.Body)
	}
	return s
}

// modelMembers is Members once more: of each path, who of its class comes first is looked up from the order's beginning on.
func modelMembers(tree []api.Node, order []string) []api.Member {
	node := func(path string) api.Node {
		return tree[slices.IndexFunc(tree, func(x api.Node) bool { return x.Path == path })]
	}
	var list []api.Member
	for _, path := range order {
		x := node(path)
		m := api.Member{Path: path, Target: x.Target, Kind: x.Kind, Meta: x.Meta, Body: x.Body}
		first := order[slices.IndexFunc(order, func(other string) bool { return node(other).Leader == x.Leader })]
		if x.Kind == api.File && first != path {
			m.Kind, m.Target, m.Body = api.Hard, first, nil
		}
		list = append(list, m)
	}
	return list
}

// modelSound is Sound of good members once more: what is ahead of each one is gone through.
func modelSound(list []api.Member) bool {
	for i, m := range list {
		ahead := list[:i]
		if slices.ContainsFunc(ahead, func(x api.Member) bool { return x.Path == m.Path }) {
			return false
		}
		if m.Kind == api.Hard && !slices.ContainsFunc(ahead, func(x api.Member) bool { return x.Path == m.Target && x.Kind == api.File }) {
			return false
		}
	}
	return true
}

// modelClasses is Classes once more: who leads goes through the whole tree for those that are led.
func modelClasses(tree []api.Node) [][]string {
	var list [][]string
	for _, leader := range tree {
		if leader.Kind != api.File || leader.Leader != leader.Path {
			continue
		}
		var class []string
		for _, x := range tree {
			if x.Kind == api.File && x.Leader == leader.Path {
				class = append(class, x.Path)
			}
		}
		list = append(list, class)
	}
	return list
}

// permute calls f with each order of a list.
func permute(list []string, f func(order []string)) {
	var from func(at int)
	from = func(at int) {
		if at == len(list) {
			f(slices.Clone(list))
			return
		}
		for i := at; i < len(list); i++ {
			list[at], list[i] = list[i], list[at]
			from(at + 1)
			list[at], list[i] = list[i], list[at]
		}
	}
	from(0)
}
