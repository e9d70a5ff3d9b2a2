package tree

import (
	"bytes"
	"maps"
	"slices"

	"bindle/api"
)

// laying is a tree while members are laid.
type laying struct {
	list []api.Member
	// Of each path that is there the number of the member that it has its content from:
	// files of one number are names of one content, so they are a link class.
	from map[string]int
}

func newLaying(list []api.Member) *laying {
	return &laying{list: list, from: map[string]int{}}
}

// lay lays a good member; false, if it is a hard link to what is no file.
func (l *laying) lay(n int) bool {
	m := l.list[n]
	if m.Kind == api.Hard {
		target, there := l.from[m.Target]
		if !there || l.list[target].Kind != api.File {
			return false
		}
		n = target
	}
	l.from[m.Path] = n
	return true
}

// tree is what is there.
func (l *laying) tree() []api.Node {
	paths := slices.SortedFunc(maps.Keys(l.from), compare)
	tree := make([]api.Node, len(paths))
	leaders := map[int]int{}
	for i, name := range paths {
		n := l.from[name]
		m := l.list[n]
		tree[i] = api.Node{Path: name, Target: m.Target, Kind: m.Kind, Meta: m.Meta, Body: bytes.Clone(m.Body)}
		if m.Kind == api.File {
			// Paths rise, so the first one of a class is its least.
			first, there := leaders[n]
			if !there {
				first = i
				leaders[n] = first
			}
			tree[i].Leader = paths[first]
		}
	}
	return tree
}
