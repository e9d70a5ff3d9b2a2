package path_test

import (
	"slices"
	"strings"
	"testing"

	"bindle/api"
	"bindle/path"
)

// rightText is the chapter's words once more: whole code points from the beginning to the end, each read by hand.
func rightText(s string) bool {
	for len(s) > 0 {
		n := 0
		switch c := s[0]; {
		case c < 0x80:
			n = 1
		case c >= 0xc0 && c < 0xe0:
			n = 2
		case c >= 0xe0 && c < 0xf0:
			n = 3
		case c >= 0xf0 && c < 0xf8:
			n = 4
		}
		if n == 0 || len(s) < n || !rightPoint(s[:n]) {
			return false
		}
		s = s[n:]
	}
	return true
}

// rightPoint holds one form of so many bytes against the bounds of code points, and of shortest forms.
func rightPoint(s string) bool {
	least := []int{1, 0x80, 0x800, 0x10000}[len(s)-1]
	point := int(s[0])
	if len(s) > 1 {
		point = int(s[0]) & (0x7f >> len(s))
	}
	for _, c := range []byte(s[1:]) {
		if c&0xc0 != 0x80 {
			return false
		}
		point = point<<6 | int(c&0x3f)
	}
	return point >= least && point <= 0x10ffff && (point < 0xd800 || point > 0xdfff)
}

// form writes a number as UTF-8 would, in so many bytes, be it a code point, in its shortest form, or not.
func form(point, n int) string {
	if n == 1 {
		return string([]byte{byte(point)})
	}
	b := make([]byte, n)
	for i := n - 1; i > 0; i-- {
		b[i] = 0x80 | byte(point&0x3f)
		point >>= 6
	}
	b[0] = byte(0xff00>>uint(n)&0xff | point)
	return string(b)
}

// text holds Clean and Target of a short text, without slashes and dots, against what it should be: right, or not.
func text(t *testing.T, s string, right bool) {
	t.Helper()
	want := api.OK
	if !right {
		want = api.ErrText
	}
	if e := path.Target(s); e != want {
		t.Errorf("Target(%q): %v, want %v", s, e, want)
	}
	got, e := path.Clean("n" + s)
	if e != want || right && got != "n"+s || !right && got != "" {
		t.Errorf("Clean(%q): %q, %v, want %v", "n"+s, got, e, want)
	}
}

// P5.1, P5.2: each code point in its shortest form, and what is none.
func TestTextPoints(t *testing.T) {
	for point := range 1 << 21 {
		if point == '/' {
			continue
		}
		n := 4
		for i, most := range []int{0x80, 0x800, 0x10000} {
			if point < most {
				n = i + 1
				break
			}
		}
		right := point > 0 && point <= 0x10ffff && (point < 0xd800 || point > 0xdfff)
		text(t, form(point, n), right)
	}
}

// P5.1, P5.2: no code point in a longer form, and none of more than four bytes.
func TestTextLonger(t *testing.T) {
	for point := range 0x10000 {
		for n := 2; n <= 6; n++ {
			if most := []int{0x80, 0x800, 0x10000, 1 << 21, 1 << 26}[n-2]; point < most {
				text(t, form(point, n), false)
			}
		}
	}
	text(t, form(1<<21, 5), false)
	text(t, form(1<<26, 6), false)
}

// P5.1, P5.2: all texts of up to four bytes at which the answer may turn.
func TestTextBytes(t *testing.T) {
	edges := []byte("\x00\x01n\x7f\x80\x8f\x90\x9f\xa0\xbf\xc0\xc1\xc2\xdf\xe0\xe1\xec\xed\xee\xef\xf0\xf1\xf3\xf4\xf5\xf7\xf8\xfc\xfe\xff")
	for _, a := range edges {
		for _, b := range edges {
			text(t, string([]byte{a, b}), rightText(string([]byte{a, b})))
			for _, c := range edges {
				text(t, string([]byte{a, b, c}), rightText(string([]byte{a, b, c})))
				for _, d := range edges {
					text(t, string([]byte{a, b, c, d}), rightText(string([]byte{a, b, c, d})))
				}
			}
		}
	}
	for c := range 256 {
		if one := string([]byte{byte(c)}); one != "/" {
			text(t, one, c > 0 && c < 128)
		}
	}
}

// targets expects an answer of Target.
func targets(t *testing.T, s string, want api.Errno) {
	t.Helper()
	if e := path.Target(s); e != want {
		t.Errorf("Target(%q): %v, want %v", s, e, want)
	}
}

// P5.2: a target may be any right text that is neither empty nor too long; no part of it is looked at.
func TestTarget(t *testing.T) {
	for _, s := range []string{
		"a", "/", "/a", "//", "..", "../x", "../../x", ".", "./", "a/..", "a//b", "./a//b/", " ", "\n", "\\", "\x7f", "\x01", "\u00e9",
		"\ufffd", "\ufeff", "\uffff", "\U0010ffff", strings.Repeat("/", 200), strings.Repeat("../", 66),
	} {
		targets(t, s, api.OK)
	}
	targets(t, "", api.ErrPath)
}

// P5.2: at most MaxLink bytes of the text as it is.
func TestTargetLong(t *testing.T) {
	for n := 1; n < 500; n++ {
		for _, one := range []string{"x", "/", ".", "./", "\u00e9", "\u4e2d", "\U0001f600"} {
			s := strings.Repeat(one, n)
			if len(s) <= 200 {
				targets(t, s, api.OK)
			} else {
				targets(t, s, api.ErrPath)
			}
		}
	}
	targets(t, "./"+strings.Repeat("x", 198), api.OK)
	targets(t, "./"+strings.Repeat("x", 199), api.ErrPath)
	targets(t, strings.Repeat("x", 200)+"/", api.ErrPath)
	targets(t, strings.Repeat("x", 1<<20), api.ErrPath)
}

// P5.2: of a text that is not right that is told, however long it is.
func TestTargetText(t *testing.T) {
	for _, bad := range []string{"\x00", "\x80", "\xff", "\xc0\xaf", "\xc0\x80", "\xed\xa0\x80", "\xf4\x90\x80\x80", "\xc3", "\xe4\xb8", "\xf0\x9f\x98"} {
		for _, s := range []string{
			bad, "a" + bad, bad + "a", "/" + bad, "../" + bad, bad + "/", strings.Repeat("x", 199) + bad, strings.Repeat("x", 200) + bad,
			strings.Repeat("x", 300) + bad, bad + strings.Repeat("x", 300), strings.Repeat("x", 150) + bad + strings.Repeat("x", 150),
		} {
			targets(t, s, api.ErrText)
		}
	}
}

// P5.2: texts in rising order; each is ahead of all behind it, and of no other.
func TestLess(t *testing.T) {
	rising := []string{
		"", "\x00", "\x00\x00", "\x00a", "\x01", "\t", " ", "!", "-", ".", "..", "/", "0", "10", "2", "9", "A", "AZ", "Aa", "Z", "_",
		"a", "a\x00", "a\x00b", "a a", "a-b", "a.b", "a/", "a/b", "a/b/c", "a/c", "a0", "aA", "aa", "aaa", "ab", "a\x7f", "a\u00e9", "a\xff", "b", "ba",
		"e\u0301", "z", "zz", "~", "\x7f", "\x80", "\x80\x80", "\xbf", "\u00e0", "\u00e9", "\u07ff", "\u0800", "\u4e2d", "\ud7ff", "\ue000", "\ufffd", "\uffff",
		"\U00010000", "\U0010ffff", "\xfe", "\xff", "\xffa", "\xff\xff",
	}
	long := strings.Repeat("\xff", 300)
	rising = append(rising, long, long+"a", long+"a/", long+"b", long+"\xff")
	for i, a := range rising {
		for j, b := range rising {
			if got := path.Less(a, b); got != (i < j) {
				t.Errorf("Less(%q, %q): %v", a, b, got)
			}
		}
	}
}

// P5.2: all pairs of bytes, as the whole of a text, behind a beginning, and ahead of what differs the other way.
func TestLessBytes(t *testing.T) {
	for a := range 256 {
		for b := range 256 {
			x, y := string([]byte{byte(a)}), string([]byte{byte(b)})
			want := a < b
			if path.Less(x, y) != want || path.Less("n"+x, "n"+y) != want || path.Less("n"+x+"\x00", "n"+y) != want {
				t.Errorf("Less(%q, %q)", x, y)
			}
			if a != b && (path.Less(x+"z", y+"a") != want || path.Less(x+"zzz", y) != want || path.Less(x, y+"zzz") != want) {
				t.Errorf("Less(%q.., %q..)", x, y)
			}
		}
	}
}

// P5.2: paths that are sorted by Less stand as they do when their bytes are.
func TestLessSorts(t *testing.T) {
	list := []string{"b", "a/b", "a", "a.b", "a-b", "B", "a/b/c", "", "\u00e9", "a0", "z"}
	slices.SortFunc(list, func(a, b string) int {
		switch {
		case path.Less(a, b):
			return -1
		case path.Less(b, a):
			return 1
		}
		return 0
	})
	if want := []string{"", "B", "a", "a-b", "a.b", "a/b", "a/b/c", "a0", "b", "z", "\u00e9"}; !slices.Equal(list, want) {
		t.Errorf("%q", list)
	}
}
