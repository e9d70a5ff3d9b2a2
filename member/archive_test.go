package member_test

import (
	"bytes"
	"fmt"
	"math"
	"slices"
	"strconv"
	"testing"

	"bindle/api"
	"bindle/head"
	"bindle/member"
)

// chunkings are chunks of all sorts.
var chunkings = [][]int{
	nil, {}, {512}, {511}, {513}, {3, 600}, {1 << 20}, {math.MaxInt}, {100, 0, math.MinInt, 333},
}

// header is the block of a head that can be put.
func header(h api.Head) []byte {
	b, ok := head.Put(h)
	if !ok {
		panic(fmt.Sprintf("%+v can't be put", h))
	}
	return b
}

// signed writes a block's sum into it, behind it was changed.
func signed(b []byte) []byte {
	copy(b[148:], "        ")
	sum := 0
	for _, c := range b {
		sum += int(c)
	}
	copy(b[148:], fmt.Sprintf("%06o\x00 ", sum))
	return b
}

// changed is the block of a head with a text laid into it, and its sum.
func changed(h api.Head, at int, text string) []byte {
	b := header(h)
	copy(b[at:], text)
	return signed(b)
}

// body is a text with bytes 0 to a whole block.
func body(text string) []byte {
	return append([]byte(text), make([]byte, (512-len(text)%512)%512)...)
}

// with is a member with its body.
func with(h api.Head, text string) []byte {
	h.Size = len(text)
	return append(header(h), body(text)...)
}

// extension is an extension of a kind.
func extension(kind byte, text string) []byte {
	return with(api.Head{Name: "@", Kind: kind}, text)
}

// records are an extension's lines of keys and values by turns.
func records(list ...string) string {
	lines := ""
	for pair := range slices.Chunk(list, 2) {
		line := " " + pair[0] + "=" + pair[1] + "\n"
		wide := len(line) + 1
		for len(strconv.Itoa(wide))+len(line) != wide {
			wide++
		}
		lines += strconv.Itoa(wide) + line
	}
	return lines
}

// file is a file without a body.
func file(name string) []byte {
	return header(api.Head{Name: name, Kind: api.File})
}

// isFile is what file is read as.
func isFile(name string) api.Member {
	return api.Member{Path: name, Kind: api.File}
}

// open are parts of an archive, one behind the other, without its end.
func open(parts ...[]byte) []byte {
	return bytes.Join(parts, nil)
}

// archive are parts of an archive, and its end.
func archive(parts ...[]byte) []byte {
	return append(open(parts...), make([]byte, 1024)...)
}

// same tells whether members are the same, one by one.
func same(a, b []api.Member) bool {
	return slices.EqualFunc(a, b, func(a, b api.Member) bool {
		return a.Path == b.Path && a.Target == b.Target && a.Kind == b.Kind && a.Meta == b.Meta && bytes.Equal(a.Body, b.Body)
	})
}

// toldAll is what a failure tells of members.
func toldAll(list []api.Member) string {
	s := strconv.Itoa(len(list)) + " members"
	for _, m := range list[:min(len(list), 10)] {
		s += "; " + told(m)
	}
	return s
}

// answers expects Read to answer so, whatever chunks say.
func answers(t *testing.T, b []byte, want []api.Member, fault api.Fault, chunkings ...[]int) {
	t.Helper()
	for _, chunks := range chunkings {
		list, f := member.Read(b, chunks)
		if f != fault || !same(list, want) {
			t.Errorf("Read of %d bytes by %v: %s, %v, want %s, %v", len(b), chunks, toldAll(list), f, toldAll(want), fault)
			return
		}
		if f.E == api.OK && slices.ContainsFunc(list, func(m api.Member) bool { return !member.Good(m) }) {
			t.Errorf("Read of %d bytes by %v: not all good: %s", len(b), chunks, toldAll(list))
		}
	}
}

// reads expects Read of an archive of these parts to answer members.
func reads(t *testing.T, parts [][]byte, want ...api.Member) {
	t.Helper()
	answers(t, archive(parts...), want, api.Fault{}, chunkings...)
}

// faults expects Read to answer a fault, and nothing beside it.
func faults(t *testing.T, b []byte, e api.Errno, at int) {
	t.Helper()
	answers(t, b, nil, api.Fault{E: e, At: at}, chunkings...)
}
