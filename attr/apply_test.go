package attr_test

import (
	"math"
	"regexp"
	"slices"
	"strconv"
	"strings"
	"testing"

	"bindle/api"
	"bindle/attr"
)

// full is a head of which no field has its zero value.
func full() api.Head {
	return api.Head{Name: "n", Link: "l", Kind: api.Sym, Meta: api.Meta{Mode: 1, UID: 2, GID: 3, Time: 4}, Size: 5, GNU: true}
}

// changes expects Apply to full to answer what change makes of that.
func changes(t *testing.T, s *attr.State, change func(h *api.Head), list ...api.Record) {
	t.Helper()
	want := full()
	change(&want)
	if got, e := s.Apply(full(), list...); e != api.OK || got != want {
		t.Errorf("Apply(%.100q): %#v, %v, want %#v", list, got, e, want)
	}
}

// leaves expects Apply to answer the head as it is.
func leaves(t *testing.T, s *attr.State, list ...api.Record) {
	t.Helper()
	changes(t, s, func(*api.Head) {}, list...)
}

// refuses expects Apply to answer ErrNumber, and nothing beside it.
func refuses(t *testing.T, s *attr.State, list ...api.Record) {
	t.Helper()
	if got, e := s.Apply(full(), list...); e != api.ErrNumber || got != (api.Head{}) {
		t.Errorf("Apply(%.100q): %#v, %v, want %v", list, got, e, api.ErrNumber)
	}
}

// numberOf is the field of a head that a key of a number changes.
func numberOf(h *api.Head, key string) *int {
	switch key {
	case "uid":
		return &h.Meta.UID
	case "gid":
		return &h.Meta.GID
	case "mtime":
		return &h.Meta.Time
	}
	return &h.Size
}

// numbers are the keys of numbers.
func numbers() []string {
	return []string{"uid", "gid", "mtime", "size"}
}

// reads expects a key's value to be a number, own or global.
func reads(t *testing.T, key, value string, want int) {
	t.Helper()
	change := func(h *api.Head) { *numberOf(h, key) = want }
	changes(t, nil, change, rec(key, value))
	changes(t, new(attr.State), change, rec(key, value))
	changes(t, with([]api.Record{rec(key, value)}), change)
}

// wrong expects a key's value to be no number, own or global.
func wrong(t *testing.T, key, value string) {
	t.Helper()
	refuses(t, nil, rec(key, value))
	refuses(t, new(attr.State), rec(key, value))
	refuses(t, with([]api.Record{rec(key, value)}))
}

// What numbers, and times, look like.
var (
	plain = regexp.MustCompile(`\A[0-9]{1,18}\z`)
	clock = regexp.MustCompile(`\A([0-9]{1,18})(\.[0-9]*)?\z`)
)

// model is Apply once more, with patterns.
func model(h api.Head, global, own []api.Record) (api.Head, api.Errno) {
	for key, text := range map[string]*string{"path": &h.Name, "linkpath": &h.Link} {
		if value := modelValue(key, global, own); value != "" {
			*text = value
		}
	}
	for _, key := range numbers() {
		value := modelValue(key, global, own)
		if m := clock.FindStringSubmatch(value); m != nil && (key == "mtime" || plain.MatchString(value)) {
			*numberOf(&h, key), _ = strconv.Atoi(m[1])
		} else if value != "" {
			return api.Head{}, api.ErrNumber
		}
	}
	return h, api.OK
}

// agrees holds Apply against the model.
func agrees(t *testing.T, global, own []api.Record) {
	t.Helper()
	want, wantE := model(full(), global, own)
	if got, e := with(global).Apply(full(), own...); e != wantE || got != want {
		t.Errorf("%.100q, Apply(%.100q): %#v, %v, want %#v, %v", global, own, got, e, want, wantE)
	}
}

// P7.1: without a record that counts, the head as it is, whatever it is.
func TestApplyNothing(t *testing.T) {
	heads := []api.Head{
		{}, full(), {Name: "\xff\x00", Link: "/..", Kind: 0xff}, {Name: strings.Repeat("n", 1000), GNU: true},
		{Meta: api.Meta{Mode: -1, UID: -1, GID: math.MinInt, Time: math.MaxInt}, Size: -1}, {Kind: api.Dir, Size: math.MaxInt},
	}
	for _, s := range []*attr.State{nil, new(attr.State), with([]api.Record{rec("k", "v")}), with([]api.Record{rec("uid", "")})} {
		for _, h := range heads {
			for _, list := range [][]api.Record{nil, {}, {rec("k", "v")}, {rec("path", ""), rec("size", "")}} {
				if got, e := s.Apply(h, list...); e != api.OK || got != h {
					t.Errorf("Apply(%#v, %q): %#v, %v", h, list, got, e)
				}
			}
		}
	}
}

// P7.1: each key changes its own field, and no other one.
func TestApplyFields(t *testing.T) {
	for _, own := range []bool{true, false} {
		for key, change := range map[string]func(h *api.Head){
			"path":     func(h *api.Head) { h.Name = "77" },
			"linkpath": func(h *api.Head) { h.Link = "77" },
			"uid":      func(h *api.Head) { h.Meta.UID = 77 },
			"gid":      func(h *api.Head) { h.Meta.GID = 77 },
			"mtime":    func(h *api.Head) { h.Meta.Time = 77 },
			"size":     func(h *api.Head) { h.Size = 77 },
		} {
			if own {
				changes(t, nil, change, rec(key, "77"))
			} else {
				changes(t, with([]api.Record{rec(key, "77")}), change)
			}
		}
	}
}

// P7.1: all of them together, in any order, own ones and global ones.
func TestApplyTogether(t *testing.T) {
	list := []api.Record{rec("path", "p"), rec("linkpath", "q"), rec("uid", "10"), rec("gid", "11"), rec("mtime", "12.5"), rec("size", "13")}
	change := func(h *api.Head) {
		h.Name, h.Link, h.Size = "p", "q", 13
		h.Meta = api.Meta{Mode: 1, UID: 10, GID: 11, Time: 12}
	}
	for i := range len(list) + 1 {
		changes(t, with(list[:i]), change, list[i:]...)
		changes(t, with(list[i:]), change, list[:i]...)
		turned := slices.Concat(list[i:], list[:i])
		changes(t, nil, change, turned...)
		slices.Reverse(turned)
		changes(t, nil, change, turned...)
		changes(t, with(turned), change)
	}
}

// P7.1: other keys count for nothing, though they look like the six, or have values that are no numbers.
func TestApplyOther(t *testing.T) {
	for _, key := range []string{
		"", "k", "name", "link", "mode", "kind", "typeflag", "user", "group", "uname", "gname", "time", "atime", "ctime", "comment", "charset",
		"Path", "PATH", "path ", " path", "path\x00", "pat", "paths", "link path", "linkPath", "LINKPATH", "linkpat",
		"UID", "Uid", "ui", "uids", "GID", "gi", "MTIME", "mtim", "mtime.", "Size", "SIZE", "siz", "size\n", "GNU.sparse.size", "GNU.sparse.name", "SCHILY.dev", "gnu",
	} {
		for _, value := range []string{"", "7", "x", "-1", "\xff"} {
			leaves(t, nil, rec(key, value))
			leaves(t, with([]api.Record{rec(key, value)}))
			changes(t, nil, func(h *api.Head) { h.Meta.UID = 8 }, rec(key, value), rec("uid", "8"), rec(key, value))
		}
	}
}

// P7.1: a path and a link's path are taken as they are: which ones may be is asked elsewhere.
func TestApplyTexts(t *testing.T) {
	for _, value := range []string{
		"a", "./a//b/", "..", "/", "/a", ".", " ", "\n", "=", "\x00", "a\x00b", "\xff", "\xed\xa0\x80", "\u00e9/\u4e2d", "0", "-1",
		strings.Repeat("p", 100), strings.Repeat("p", 201), strings.Repeat("\u00e9/", 50000),
	} {
		name := func(h *api.Head) { h.Name = value }
		link := func(h *api.Head) { h.Link = value }
		changes(t, nil, name, rec("path", value))
		changes(t, nil, link, rec("linkpath", value))
		changes(t, with([]api.Record{rec("path", value)}), name)
		changes(t, with([]api.Record{rec("linkpath", value)}), link)
	}
}

// P7.1: numbers of from 1 to 18 digits, 0 ahead included.
func TestApplyNumbers(t *testing.T) {
	for _, key := range numbers() {
		for n := 1; n <= 18; n++ {
			for _, digit := range []string{"0", "1", "7", "8", "9"} {
				text := strings.Repeat(digit, n)
				want, _ := strconv.Atoi(text)
				reads(t, key, text, want)
			}
			// 0 ahead makes no octal number.
			reads(t, key, strings.Repeat("0", n-1)+"9", 9)
			reads(t, key, "1"+strings.Repeat("0", n-1), int(math.Pow10(n-1)))
		}
		reads(t, key, "0123456789", 123456789)
		reads(t, key, "000000000000000010", 10)
		reads(t, key, "999999999999999999", 999999999999999999)
		reads(t, key, "100000000000000000", 100000000000000000)
		reads(t, key, "2147483648", 1<<31)
		reads(t, key, "1099511627777", 1<<40+1)
	}
}

// P7.1: 19 digits are too many, whatever number they are.
func TestApplyTooManyDigits(t *testing.T) {
	for _, key := range numbers() {
		for _, text := range []string{
			"1000000000000000000", "9999999999999999999", "1234567890123456789", "0000000000000000000", "0000000000000000005", "9223372036854775807", "9223372036854775808",
			"18446744073709551616", "18446744073709551621", strings.Repeat("0", 20) + "5", strings.Repeat("0", 1000), strings.Repeat("9", 1000), "1" + strings.Repeat("0", 100000),
		} {
			wrong(t, key, text)
			wrong(t, key, text+".")
			wrong(t, key, text+".5")
		}
	}
}

// P7.1: what is no digits.
func TestApplyWrong(t *testing.T) {
	for _, key := range numbers() {
		for _, text := range []string{
			" ", "x", "-", "+", "-1", "+1", "-0", "+0", "--1", " 1", "1 ", "1 2", "\t1", "1\n", "\n", "\x00", "1\x00", "\x001", "0x1", "0b1", "0o7", "1_0", "1,5", "1e3", "1E3",
			"a1", "1a", "inf", "nan", "=", "1=", "/", ":", "1/", "1:", "\xb1", "1\xff", "\uff15", "\u0665", "1\uff15", "\u00b2", "\u2155", "\xe0\xa5\xab",
			"12345678901234567x", "x12345678901234567", "-12345678901234567", "99999999999999999 ",
		} {
			wrong(t, key, text)
		}
	}
}

// P7.1: of a time a point, and digits, may stand behind its digits; they count for nothing.
func TestApplyPoint(t *testing.T) {
	for text, want := range map[string]int{
		"5.": 5, "5.0": 5, "5.5": 5, "5.999999999": 5, "12.75": 12, "0.": 0, "0.9": 0, "00.00": 0, "007.8": 7, "1." + strings.Repeat("9", 18): 1, "1." + strings.Repeat("9", 19): 1,
		"1." + strings.Repeat("0", 100000): 1, "999999999999999999.": 999999999999999999, "999999999999999999.999999999999999999": 999999999999999999, "000000000000000003.1": 3,
	} {
		reads(t, "mtime", text, want)
		for _, key := range []string{"uid", "gid", "size"} {
			wrong(t, key, text)
		}
	}
}

// P7.1: what may not stand ahead of a time's point, or behind it.
func TestApplyPointWrong(t *testing.T) {
	for _, text := range []string{
		".", ".5", ".0", "..", "...", "5..", "5..5", "5.5.", "5.5.5", "..5", ".5.", "5.x", "x.5", "5.5x", "5.x5", "5.-1", "5.+1", "5. ", "5. 5", "5 .5", " 5.5", "5.5 ", "-5.5", "+5.5", "-0.5",
		"5,5", "5.5,5", "5.5e3", "5e3.5", "5.\n", "5.5\n", "5.\x00", "5.\x005", "\x005.5", "5.\uff15", "\uff15.5", "5\uff0e5", "5.\xff", "5._5", "0x5.5", "5:5", "5/5", " .", ". ", "x.", ".x",
		"5." + strings.Repeat("0", 100000) + "x",
	} {
		for _, key := range numbers() {
			wrong(t, key, text)
		}
	}
}

// P7.1: each byte, alone, ahead of a digit, behind it, and behind a point.
func TestApplyBytes(t *testing.T) {
	for c := range 256 {
		s := string([]byte{byte(c)})
		for _, key := range append(numbers(), "path", "linkpath") {
			for _, value := range []string{s, s + "5", "5" + s, "5" + s + "5", "5." + s, s + ".", "." + s, "5." + s + "5", "5.5" + s, s + s} {
				agrees(t, nil, []api.Record{rec(key, value)})
			}
		}
	}
}

// P7.1: all short texts of a few bytes, as a number and as a time.
func TestApplyShortTexts(t *testing.T) {
	texts := []string{""}
	for range 5 {
		for _, text := range texts {
			for _, c := range []string{"0", "9", ".", "-", "x"} {
				texts = append(texts, text+c)
			}
		}
		slices.Sort(texts)
		texts = slices.Compact(texts)
	}
	for _, text := range texts {
		agrees(t, nil, []api.Record{rec("size", text)})
		agrees(t, []api.Record{rec("mtime", text)}, nil)
	}
}

// P7.1: the chapter's example.
func TestApplyExample(t *testing.T) {
	s := with([]api.Record{rec("uid", "5")})
	changes(t, s, func(h *api.Head) { h.Meta.UID = 5 })
	leaves(t, s, rec("uid", ""))
	changes(t, s, func(h *api.Head) { h.Meta.UID = 5 })
}

// P7.1: what counts of a key, and nothing else, is asked to be a number.
func TestApplyCounts(t *testing.T) {
	for _, key := range numbers() {
		bad, good, none := rec(key, "x"), rec(key, "7"), rec(key, "")
		seven := func(h *api.Head) { *numberOf(h, key) = 7 }
		changes(t, nil, seven, bad, good)
		changes(t, nil, seven, none, good)
		refuses(t, nil, good, bad)
		refuses(t, nil, none, bad)
		leaves(t, nil, bad, none)
		leaves(t, nil, good, none)
		global := with([]api.Record{bad})
		refuses(t, global)
		refuses(t, global, rec("other", "7"))
		changes(t, global, seven, good)
		leaves(t, global, none)
		global.Global(good)
		changes(t, global, seven)
		refuses(t, global, bad)
		global.Global(none)
		leaves(t, global)
		global.Global(bad)
		refuses(t, global)
	}
}

// P7.1: one wrong number among others, wherever it is.
func TestApplyOneWrong(t *testing.T) {
	for i, key := range numbers() {
		list := []api.Record{rec("path", "p"), rec("linkpath", "q")}
		for _, other := range numbers() {
			list = append(list, rec(other, "7"))
		}
		list[2+i] = rec(key, "7x")
		refuses(t, nil, list...)
		refuses(t, with(list))
		refuses(t, with(list[:3]), list[3:]...)
		refuses(t, with(list[3:]), list[:3]...)
		slices.Reverse(list)
		refuses(t, nil, list...)
	}
	refuses(t, nil, rec("uid", "x"), rec("gid", "x"), rec("mtime", "x"), rec("size", "x"))
}

// P7.1: all short lists, global and own, against the model.
func TestApplyAll(t *testing.T) {
	all := lists(3, rec("uid", ""), rec("uid", "7"), rec("uid", "x"), rec("mtime", "8.5"), rec("path", "p"), rec("k", "x"))
	for _, global := range all {
		for _, own := range all {
			agrees(t, global, own)
		}
	}
}

// P7.1 with R5: Apply, with an error or without, changes no state.
func TestApplyAgain(t *testing.T) {
	s := with([]api.Record{rec("uid", "5"), rec("path", "p")})
	for range 3 {
		changes(t, s, func(h *api.Head) { h.Meta.UID, h.Name = 5, "p" })
		changes(t, s, func(h *api.Head) { h.Meta.UID, h.Name = 6, "q" }, rec("uid", "6"), rec("path", "q"))
		refuses(t, s, rec("uid", "x"), rec("gid", "9"))
		counts(t, s, "uid", "5")
		counts(t, s, "gid", "")
	}
}

// P7.1: Value asks no number.
func TestValueNoNumber(t *testing.T) {
	s := with([]api.Record{rec("uid", "x")})
	counts(t, s, "uid", "x")
	counts(t, s, "mtime", "12.75", rec("mtime", "12.75"))
	counts(t, s, "size", "-1", rec("size", "-1"))
}

// P7.1 with R4: a list is not changed, its spare room included.
func TestApplyLeavesList(t *testing.T) {
	room := []api.Record{rec("uid", "5"), rec("uid", "6"), rec("gid", "x"), rec("path", "p")}
	was := slices.Clone(room)
	s := with([]api.Record{rec("uid", "7")})
	s.Apply(full(), room[:2]...)
	s.Apply(full(), room...)
	if !slices.Equal(room, was) {
		t.Errorf("%q", room)
	}
}
