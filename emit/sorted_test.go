package emit_test

import (
	"fmt"
	"slices"
	"testing"

	"bindle/api"
	"bindle/emit"
)

// sorted expects Sorted of members with these paths to answer so, whatever their other fields are.
func sorted(t *testing.T, want bool, paths ...string) {
	t.Helper()
	list := make([]api.Member, len(paths))
	for range 2 {
		for i, path := range paths {
			list[i].Path = path
		}
		if emit.Sorted(list) != want {
			t.Errorf("Sorted of %.200q: not %v", paths, want)
		}
		for i := range list {
			list[i] = api.Member{Target: fmt.Sprint(len(list) - i), Kind: byte('9' - i%7), Meta: api.Meta{Mode: -i, Time: -i}, Body: []byte{byte(-i)}}
		}
	}
}

// P12.2: nothing, one, and a few.
func TestSorted(t *testing.T) {
	if !emit.Sorted(nil) || !emit.Sorted([]api.Member{}) {
		t.Error("nothing")
	}
	sorted(t, true, "a")
	sorted(t, true, "")
	sorted(t, true, "\xff")
	sorted(t, true, "a", "b")
	sorted(t, false, "b", "a")
	sorted(t, false, "a", "a")
	sorted(t, false, "", "")
	sorted(t, true, "a", "b", "c")
	sorted(t, false, "a", "c", "b")
	sorted(t, false, "b", "a", "c")
	sorted(t, false, "a", "b", "a")
	sorted(t, false, "a", "b", "b")
	sorted(t, false, "a", "a", "b")
}

// P12.2: paths are held against one another byte by byte (chapter 5), good or not.
func TestSortedBytes(t *testing.T) {
	list := []string{"", "\x00", "\x00\x00", "\x01", " ", "-", ".", "..", "../a", "/", "/a", "0", "A", "Z", "a", "a\x00", "a ", "a.b", "a/", "a/b", "a0", "aa", "b", "\x7f", "\x80", "\xc3\xa9", "\xe4", "\xff", "\xff\xff"}
	sorted(t, true, list...)
	for i, a := range list {
		for j, b := range list {
			sorted(t, i < j, a, b)
			changed := slices.Clone(list)
			changed[i], changed[j] = b, a
			sorted(t, i == j, changed...)
		}
		sorted(t, false, slices.Insert(slices.Clone(list), i, a)...)
	}
}

// P12.2: all lists of up to five paths out of four.
func TestSortedAll(t *testing.T) {
	var lists func(list []string)
	lists = func(list []string) {
		want := slices.IsSorted(list) && len(slices.Compact(slices.Clone(list))) == len(list)
		sorted(t, want, list...)
		for _, path := range []string{"a", "a.", "a/", "b"} {
			if len(list) < 5 && !t.Failed() {
				lists(append(slices.Clone(list), path))
			}
		}
	}
	lists(nil)
}

// P12.2: long lists, more members than an archive may have among them; what is wrong at their ends.
func TestSortedMany(t *testing.T) {
	for _, n := range []int{100, api.MaxItems, 2 * api.MaxItems} {
		var list []string
		for i := range n {
			list = append(list, fmt.Sprintf("%06d", i))
		}
		sorted(t, true, list...)
		sorted(t, false, append(slices.Clone(list), list[n-1])...)
		sorted(t, false, append(slices.Clone(list), "")...)
		sorted(t, false, append([]string{list[0]}, list...)...)
		sorted(t, false, append([]string{"z"}, list...)...)
	}
}

// P12.2 with R4: what is handed in is not changed.
func TestSortedKeeps(t *testing.T) {
	list := []api.Member{file("b", "x"), file("a", "y"), dir("room")}
	if emit.Sorted(list[:2]) || told(list) != told([]api.Member{file("b", "x"), file("a", "y"), dir("room")}) {
		t.Error("changed: " + told(list))
	}
}
