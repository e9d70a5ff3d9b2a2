package path_test

import (
	stdpath "path"
	"strings"
	"testing"

	"bindle/api"
	"bindle/path"
)

// cleans expects Clean to answer a path, of which Clean answers the same once more.
func cleans(t *testing.T, s, want string) {
	t.Helper()
	if got, e := path.Clean(s); got != want || e != api.OK {
		t.Errorf("Clean(%q): %q, %v, want %q", s, got, e, want)
	}
	if got, e := path.Clean(want); got != want || e != api.OK {
		t.Errorf("Clean(%q): %q, %v, want the same", want, got, e)
	}
}

// refuses expects Clean to answer an error, and nothing beside it.
func refuses(t *testing.T, s string, want api.Errno) {
	t.Helper()
	if got, e := path.Clean(s); got != "" || e != want {
		t.Errorf("Clean(%q): %q, %v, want %v", s, got, e, want)
	}
}

// P5.1: what is left of a path; the chapter's example.
func TestClean(t *testing.T) {
	for s, want := range map[string]string{
		"./a//b/":                  "a/b",
		"a":                        "a",
		"a/b":                      "a/b",
		"a/b/c":                    "a/b/c",
		"a/a/a":                    "a/a/a",
		"a/":                       "a",
		"a//":                      "a",
		"a///b":                    "a/b",
		"a/.":                      "a",
		"a/./":                     "a",
		"a/./b":                    "a/b",
		"a/././b":                  "a/b",
		"a/.//./b":                 "a/b",
		"./a":                      "a",
		".//a":                     "a",
		"././a/.":                  "a",
		".//./a//.//b/./":          "a/b",
		"dir/file.txt":             "dir/file.txt",
		"c/b/a":                    "c/b/a",
		"\u00e9/\u4e2d/\U0001f600": "\u00e9/\u4e2d/\U0001f600",
	} {
		cleans(t, s, want)
	}
}

// P5.1: only parts that are . or .. as a whole count as such.
func TestCleanDots(t *testing.T) {
	for _, s := range []string{
		"...", "....", ".a", "a.", "..a", "a..", "a..b", ".a.", "..a..", "a/...", ".../a", "a/.../b", "a/..b", "a/b..",
		"a/.b", "a/b.", ". ", " .", ".. ", " ..", "..\\a", "a\\..", ".\n", "..\n", "\uff0e", "\uff0e\uff0e", "\u2025", "\u2024\u2024", "..\u200b",
	} {
		cleans(t, s, s)
	}
}

// P5.1: a part .. is refused wherever it is, even where going up would stay inside.
func TestCleanUp(t *testing.T) {
	for _, s := range []string{
		"..", "../", "..//", "./..", "./../", ".//..", "../a", "../../a", "a/..", "a/../", "a//..", "a/./..", "a/../b", "a/b/..", "a/b/../c",
		"a/b/../../..", "/..", "/../a", "../.", "a/b/c/d/e/f/..", "../" + strings.Repeat("p", 300), strings.Repeat("p", 300) + "/..",
		strings.Repeat("p", 200) + "/..", strings.Repeat("./", 300) + "..",
	} {
		refuses(t, s, api.ErrPath)
	}
}

// P5.1: nothing, and what begins with /.
func TestCleanNothing(t *testing.T) {
	for _, s := range []string{
		"", ".", "./", ".//", "./.", "././", "././.", ".//.", strings.Repeat("./", 300), strings.Repeat("./", 300) + ".",
		"/", "//", "///", "/.", "/./", "/a", "//a", "/a/b", "/./a", "/a/", strings.Repeat("/", 300), "/\u00e9",
	} {
		refuses(t, s, api.ErrPath)
	}
}

// P5.1: at most MaxPath bytes, of what is left, slashes between included.
func TestCleanLong(t *testing.T) {
	p := func(n int) string { return strings.Repeat("p", n) }
	for s, want := range map[string]string{
		p(199):                            p(199),
		p(200):                            p(200),
		"./" + p(200):                     p(200),
		p(200) + "/":                      p(200),
		p(200) + "/.":                     p(200),
		".//" + p(200) + "//.//":          p(200),
		p(100) + "/" + p(99):              p(100) + "/" + p(99),
		p(100) + "//./" + p(99) + "/":     p(100) + "/" + p(99),
		"a/" + p(196) + "/b":              "a/" + p(196) + "/b",
		strings.Repeat("./", 5000) + "a":  "a",
		"a" + strings.Repeat("/", 5000):   "a",
		"a" + strings.Repeat("/.", 5000):  "a",
		strings.Repeat("a/", 100):         strings.Repeat("a/", 99) + "a",
		strings.Repeat("a/", 99) + "aa":   strings.Repeat("a/", 99) + "aa",
		strings.Repeat("a//./", 99) + "a": strings.Repeat("a/", 99) + "a",
		strings.Repeat("\u00e9", 100):     strings.Repeat("\u00e9", 100),
		strings.Repeat("\U0001f600", 50):  strings.Repeat("\U0001f600", 50),
	} {
		cleans(t, s, want)
	}
	for _, s := range []string{
		p(201), p(1000), "./" + p(201), p(201) + "/", p(201) + "/.", p(100) + "/" + p(100), "a/" + p(197) + "/b", "a/" + p(199), p(199) + "/a",
		strings.Repeat("a/", 100) + "a", strings.Repeat("a/", 5000), p(200) + "/b", "b/" + p(200), p(201) + "/b",
		strings.Repeat("\u00e9", 100) + "a", strings.Repeat("\u00e9", 101), strings.Repeat("\u4e2d", 67), strings.Repeat("\U0001f600", 50) + "a",
	} {
		refuses(t, s, api.ErrPath)
	}
}

// P5.1: all lengths, of one part and of many.
func TestCleanLengths(t *testing.T) {
	for n := 1; n < 500; n++ {
		for _, s := range []string{strings.Repeat("p", n), strings.Repeat("a/", n-1) + "a", strings.Repeat("ab/", n-1) + "a"} {
			if len(s) <= 200 {
				cleans(t, s, s)
			} else {
				refuses(t, s, api.ErrPath)
			}
		}
	}
}

// P5.1: of a text that is not right that is told, whatever else is wrong with it.
func TestCleanText(t *testing.T) {
	for _, bad := range []string{"\x00", "\x80", "\xff", "\xc0\xaf", "\xc0\x80", "\xe0\x80\xaf", "\xed\xa0\x80", "\xf4\x90\x80\x80", "\xc3", "\xe4\xb8", "\xf0\x9f\x98"} {
		for _, s := range []string{
			bad, "a" + bad, bad + "a", "a/" + bad, bad + "/a", "/" + bad, "/a/" + bad, "../" + bad, bad + "/..", "a/../" + bad, "./" + bad, bad + "/.",
			strings.Repeat("p", 300) + bad, bad + strings.Repeat("p", 300), strings.Repeat("p/", 300) + bad, strings.Repeat("../", 300) + bad, "a" + bad + "b",
		} {
			refuses(t, s, api.ErrText)
		}
	}
}

// P5.1: all bytes that are neither 0 nor / stand for themselves.
func TestCleanBytes(t *testing.T) {
	for c := 1; c < 128; c++ {
		one := string(rune(c))
		if one == "/" {
			continue
		}
		cleans(t, "a"+one+"b", "a"+one+"b")
		cleans(t, one+"a/", one+"a")
		if one != "." {
			cleans(t, one, one)
			cleans(t, "./"+one+"//a", one+"/a")
		}
	}
	cleans(t, "A/a/\u00c5/A\u030a/\u212b", "A/a/\u00c5/A\u030a/\u212b") // neither folded nor composed
	cleans(t, "\ufeff/a", "\ufeff/a")
	cleans(t, "a\u2044b\uff0fc\\d", "a\u2044b\uff0fc\\d") // slashes that are none
}

// model is P5.1 once more, by the library's own paths.
func model(s string) (string, api.Errno) {
	if !rightText(s) {
		return "", api.ErrText
	}
	clean := stdpath.Clean(s)
	if s == "" || s[0] == '/' || strings.Contains("/"+s+"/", "/../") || clean == "." || len(clean) > 200 {
		return "", api.ErrPath
	}
	return clean, api.OK
}

// P5.1: all short texts of pieces at which the answer may turn.
func TestCleanAll(t *testing.T) {
	pieces := []string{"/", ".", "a", "\x00", "\xc3", "\xa9", strings.Repeat("p", 99)}
	var walk func(s string, left int)
	walk = func(s string, left int) {
		want, wantE := model(s)
		if got, e := path.Clean(s); got != want || e != wantE {
			t.Errorf("Clean(%q): %q, %v, want %q, %v", s, got, e, want, wantE)
		}
		if left == 0 {
			return
		}
		for _, p := range pieces {
			walk(s+p, left-1)
		}
	}
	walk("", 6)
}

// P5.1 with R5: what is answered hangs on nothing that was asked before.
func TestCleanAgain(t *testing.T) {
	for range 3 {
		cleans(t, "./a//b/", "a/b")
		refuses(t, "a/../b", api.ErrPath)
		refuses(t, "\xff", api.ErrText)
	}
}
