package links_test

import (
	"slices"
	"testing"

	"bindle/api"
	"bindle/links"
	"bindle/tree"
)

// haveClasses expects Classes to answer these.
func haveClasses(t *testing.T, list []api.Node, want ...[]string) {
	t.Helper()
	if !tree.Good(list) {
		t.Errorf("not good: %s", toldTree(list))
	}
	if got := links.Classes(list); !slices.EqualFunc(got, want, slices.Equal) {
		t.Errorf("Classes of %s: %q, want %q", toldTree(list), got, want)
	}
}

// P11.2: trees without files, of one file, and of a few.
func TestClasses(t *testing.T) {
	haveClasses(t, nil)
	haveClasses(t, []api.Node{})
	haveClasses(t, []api.Node{isDir("a"), isSym("b", "a")})
	haveClasses(t, []api.Node{isFile("a/b", "a/b", "x")}, []string{"a/b"})
	haveClasses(t, []api.Node{isFile("a", "a", ""), isFile("b", "a", "")}, []string{"a", "b"})
	haveClasses(t, mixed(), []string{"b", "d", "f"}, []string{"c"}, []string{"e.f", "g", "h/i"})
	haveClasses(t, []api.Node{isSym("a", "b"), isFile("b", "b", "x"), isDir("c"), isFile("d", "b", "x"), isDir("e")}, []string{"b", "d"})
}

// P11.2: files with the same content that are of no class are classes of their own.
func TestClassesAlike(t *testing.T) {
	haveClasses(t, []api.Node{isFile("a", "a", "x"), isFile("b", "b", "x"), isFile("c", "b", "x"), isFile("d", "a", "x")}, []string{"a", "d"}, []string{"b", "c"})
	haveClasses(t, []api.Node{isFile("a", "a", ""), isFile("b", "b", ""), isFile("c", "c", "")}, []string{"a"}, []string{"b"}, []string{"c"})
}

// P11.2: classes stand by their least paths, whatever their others are, and however many they have; paths are held against one another byte by byte.
func TestClassesOrder(t *testing.T) {
	haveClasses(t, []api.Node{isFile("a", "a", "x"), isFile("b", "b", "y"), isFile("c", "b", "y"), isFile("d", "b", "y"), isFile("e", "a", "x")},
		[]string{"a", "e"}, []string{"b", "c", "d"})
	haveClasses(t, []api.Node{isFile("A", "A", "x"), isFile("a", "a", "y"), isFile("a b", "a b", "z"), isFile("a.b", "A", "x"), isFile("a/b", "a", "y"), isFile("aa", "a b", "z"), isFile("\u00e9", "a", "y")},
		[]string{"A", "a.b"}, []string{"a", "a/b", "\u00e9"}, []string{"a b", "aa"})
}

// P11.2: many trees, against a model.
func TestClassesMany(t *testing.T) {
	for _, n := range []int{0, 1, 2, 3, 4, 5, 10, 50, 500} {
		for most := 1; most < 8; most++ {
			haveClasses(t, grown(n, most), modelClasses(grown(n, most))...)
		}
	}
	for _, most := range []int{1, 3, 5000} {
		haveClasses(t, grown(api.MaxItems, most), modelClasses(grown(api.MaxItems, most))...)
	}
}

// P11.2: all ways to part four files into classes, against a model.
func TestClassesAll(t *testing.T) {
	names := []string{"a", "b", "c", "d"}
	n := 0
	for code := range 256 {
		var list []api.Node
		for i, path := range names {
			list = append(list, isFile(path, names[code>>(2*i)&3], "x"))
		}
		// Most of these trees are not good: a leader leads itself, and is not behind what it leads.
		if tree.Good(list) {
			haveClasses(t, list, modelClasses(list)...)
			n++
		}
	}
	if n != 15 {
		t.Errorf("%d trees", n)
	}
}

// P11.2 with R4: what is handed in is not changed, and no two lists share memory.
func TestClassesMemory(t *testing.T) {
	list := append(mixed(), isDir("room"))
	want := [][]string{{"b", "d", "f"}, {"c"}, {"e.f", "g", "h/i"}}
	one := links.Classes(list[:len(list)-1])
	two := links.Classes(list[:len(list)-1])
	for i := range one {
		for j := range one {
			if room := one[j][:cap(one[j])]; i != j {
				clear(room)
			}
		}
		if !slices.Equal(one[i], want[i]) {
			t.Errorf("class %d is shared: %q", i, one[i])
		}
		one = links.Classes(list[:len(list)-1])
	}
	clear(one[:cap(one)])
	if !slices.EqualFunc(list, append(mixed(), isDir("room")), sameNode) {
		t.Error("changed: " + toldTree(list))
	}
	clear(list)
	if !slices.EqualFunc(two, want, slices.Equal) {
		t.Errorf("kept: %q", two)
	}
}
