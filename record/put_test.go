package record_test

import (
	"bytes"
	"slices"
	"strconv"
	"strings"
	"testing"

	"bindle/api"
	"bindle/record"
)

// writes expects Line, and Put, to answer a line, and Parse of that to be the record.
func writes(t *testing.T, key, value, want string) {
	t.Helper()
	r := api.Record{Key: key, Value: value}
	if got, ok := record.Line(r); got != want || !ok {
		t.Errorf("Line(%.100q): %.100q, %v, want %.100q", r, got, ok, want)
	}
	if got, ok := record.Put(r); string(got) != want || !ok {
		t.Errorf("Put(%.100q): %.100q, %v, want %.100q", r, got, ok, want)
	}
	parses(t, want, r)
}

// mayNot expects Line, and Put, to answer false, and nothing, wherever in a list the record is.
func mayNot(t *testing.T, key, value string) {
	t.Helper()
	r, good := api.Record{Key: key, Value: value}, api.Record{Key: "k", Value: "v"}
	if got, ok := record.Line(r); got != "" || ok {
		t.Errorf("Line(%.100q): %.100q, %v", r, got, ok)
	}
	for _, list := range [][]api.Record{{r}, {r, good}, {good, r}, {good, r, good}, {r, r}} {
		if got, ok := record.Put(list...); len(got) != 0 || ok {
			t.Errorf("Put(%.100q): %.100q, %v", list, got, ok)
		}
	}
}

// P6.2: lines, and the chapter's example.
func TestLine(t *testing.T) {
	for want, r := range map[string]api.Record{
		"9 path=a\n":            {Key: "path", Value: "a"},
		"5 k=\n":                {Key: "k"},
		"6 k=v\n":               {Key: "k", Value: "v"},
		"6 k==\n":               {Key: "k", Value: "="},
		"8 k=a=b\n":             {Key: "k", Value: "a=b"},
		"6 k=\n\n":              {Key: "k", Value: "\n"},
		"11 k=5 k=\n\n":         {Key: "k", Value: "5 k=\n"},
		"6 \n=v\n":              {Key: "\n", Value: "v"},
		"8   =  \n":             {Key: "  ", Value: "  "},
		"13 path=\u00e9/x\n":    {Key: "path", Value: "\u00e9/x"},
		"7 \u00e9=v\n":          {Key: "\u00e9", Value: "v"},
		"11 \u4e2d=\u4e2d\n":    {Key: "\u4e2d", Value: "\u4e2d"},
		"9 \uff1d=v=\n":         {Key: "\uff1d", Value: "v="},
		"6 \x01=\x7f\n":         {Key: "\x01", Value: "\x7f"},
		"20 linkpath=../../a\n": {Key: "linkpath", Value: "../../a"},
	} {
		writes(t, r.Key, r.Value, want)
	}
}

// P6.2: where two numbers of digits would do, the fewer.
func TestLineFewer(t *testing.T) {
	for _, wide := range []int{9, 99, 999, 9999, 99999} {
		n := strconv.Itoa(wide)
		value := strings.Repeat("v", wide-len(n)-len(" k=\n"))
		writes(t, "k", value, n+" k="+value+"\n")
		// One byte more takes another digit, which counts, too.
		writes(t, "k", value+"v", strconv.Itoa(wide+2)+" k="+value+"v\n")
		writes(t, "k"+value, "", n+" k"+value+"=\n")
	}
}

// P6.2: lines of all sizes begin with how many bytes they have; one digit less would not do.
func TestLineSizes(t *testing.T) {
	sizes := []int{9980, 9985, 9989, 9990, 9991, 9992, 9995, 99985, 99990, 99991, 99992, 99999}
	for size := range 1200 {
		sizes = append(sizes, size)
	}
	for _, size := range sizes {
		behind := " k=" + strings.Repeat("v", size) + "\n"
		got, ok := record.Line(api.Record{Key: "k", Value: behind[3 : len(behind)-1]})
		digits, found := strings.CutSuffix(got, behind)
		if !ok || !found || digits != strconv.Itoa(len(got)) {
			t.Errorf("%d: %.20q, %v", size, got, ok)
		}
		if less := strconv.Itoa(len(got) - 1); len(less) < len(digits) && len(less)+len(behind) == len(got)-1 {
			t.Errorf("%d: %.20q, but %s would do", size, got, less)
		}
	}
}

// P6.2: a key that is empty, or has =.
func TestLineKey(t *testing.T) {
	for _, key := range []string{"", "=", "==", "k=", "=k", "k=k", "k==", "\n=", strings.Repeat("k", 1000) + "="} {
		for _, value := range []string{"", "v", "=", "\n"} {
			mayNot(t, key, value)
		}
	}
}

// P6.2: each byte, and each code point of two bytes, in a key and in a value.
func TestLineBytes(t *testing.T) {
	for c := range 256 {
		s := string([]byte{byte(c)})
		if c == 0 || c > 127 {
			mayNot(t, "k", s)
			mayNot(t, "k", "v"+s+"v")
			mayNot(t, s, "v")
			mayNot(t, "k"+s, "v")
			continue
		}
		writes(t, "k", s, "6 k="+s+"\n")
		if s == "=" {
			mayNot(t, s, "v")
		} else {
			writes(t, s, "v", "6 "+s+"=v\n")
		}
	}
	for c := rune(128); c < 0x800; c++ {
		s := string(c)
		writes(t, "k", s, "7 k="+s+"\n")
		writes(t, s, "v", "7 "+s+"=v\n")
	}
}

// P6.2: a key or a value that is no right text.
func TestLineText(t *testing.T) {
	for _, bad := range wrong() {
		for _, s := range []string{bad, bad + "a", "a" + bad, strings.Repeat("a", 300) + bad, bad + strings.Repeat("a", 300), "\u00e9" + bad} {
			mayNot(t, "k", s)
			mayNot(t, s, "v")
			mayNot(t, s, "")
			mayNot(t, s, s)
			mayNot(t, "", s)
		}
	}
	// Two halves are no right text, though they would be one.
	mayNot(t, "\xc3", "\xa9")
	for _, good := range []string{"\ud7ff", "\ue000", "\ufeff", "\ufffd", "\uffff", "\U00010000", "\U0010ffff", "e\u0301"} {
		writes(t, "k", good, line(" k="+good+"\n"))
		writes(t, good, "v", line(" "+good+"=v\n"))
	}
}

// P6.2: at most 100000 bytes, of key and value together.
func TestLineLong(t *testing.T) {
	a := func(n int) string { return strings.Repeat("a", n) }
	for _, key := range []int{1, 2, 50000, 99998, 99999, 100000} {
		value := a(100000 - key)
		writes(t, a(key), value, "100009 "+a(key)+"="+value+"\n")
		mayNot(t, a(key), a(100001-key))
		mayNot(t, a(key), a(100002-key))
		mayNot(t, a(key), a(200000))
	}
	mayNot(t, a(100001), "")
	mayNot(t, a(200000), a(200000))
	// Bytes, not code points.
	writes(t, "kk", strings.Repeat("\u00e9", 49999), "100009 kk="+strings.Repeat("\u00e9", 49999)+"\n")
	mayNot(t, "k", strings.Repeat("\u00e9", 50000))
	mayNot(t, strings.Repeat("\u4e2d", 33334), "")
}

// P6.2: Put of no record, and of many: the bound is each one's.
func TestPut(t *testing.T) {
	for _, list := range [][]api.Record{nil, {}} {
		if b, ok := record.Put(list...); len(b) != 0 || !ok {
			t.Errorf("%q %v", b, ok)
		}
	}
	k, l := api.Record{Key: "k", Value: "1"}, api.Record{Key: "l", Value: "a=b\nc"}
	for want, list := range map[string][]api.Record{
		"6 k=1\n11 l=a=b\nc\n": {k, l},
		"11 l=a=b\nc\n6 k=1\n": {l, k},
		"6 k=1\n6 k=1\n":       {k, k},
		"6 k=1\n5 k=\n6 k=1\n": {k, {Key: "k"}, k},
		"5 k=\n5 k=\n5 k=\n":   {{Key: "k"}, {Key: "k"}, {Key: "k"}},
		"9 path=a\n9 path=b\n": {{Key: "path", Value: "a"}, {Key: "path", Value: "b"}},
	} {
		if b, ok := record.Put(list...); string(b) != want || !ok {
			t.Errorf("Put(%q): %q, %v, want %q", list, b, ok, want)
		}
		parses(t, want, list...)
	}
	long := api.Record{Key: "k", Value: strings.Repeat("v", 99999)}
	list := slices.Repeat([]api.Record{long}, 20)
	b, ok := record.Put(list...)
	if want := strings.Repeat("100009 k="+long.Value+"\n", 20); string(b) != want || !ok {
		t.Errorf("%d bytes, %v", len(b), ok)
	}
	parses(t, string(b), list...)
}

// P6.2: whatever Put answers, Parse of it is the list; many lists, of all parts together.
func TestPutParse(t *testing.T) {
	keys := []string{"k", "path", "\u00e9", "5 k", "\n", " ", "0", strings.Repeat("k", 90), strings.Repeat("\n", 91)}
	values := []string{"", "v", "=", "==", "\n", "6 k=v\n", "\n6 k=v", " ", "\U0001f600", strings.Repeat("v", 6), strings.Repeat("=", 93), strings.Repeat("\n", 990)}
	var all []api.Record
	for _, key := range keys {
		for _, value := range values {
			all = append(all, api.Record{Key: key, Value: value})
		}
	}
	for i, a := range all {
		for _, b := range all {
			list := []api.Record{a, b, all[len(all)-1-i]}
			got, ok := record.Put(list...)
			lines := ""
			for _, r := range list {
				lines += line(" " + r.Key + "=" + r.Value + "\n")
			}
			if string(got) != lines || !ok {
				t.Errorf("Put(%q): %q, %v", list, got, ok)
			}
			parses(t, lines, list...)
		}
	}
}

// P6.2 with R4: a list is not changed, its spare room included.
func TestPutLeavesList(t *testing.T) {
	room := []api.Record{{Key: "k", Value: "1"}, {Key: "l"}, {Key: "m", Value: "2"}, {Key: "", Value: "3"}}
	was := slices.Clone(room)
	record.Put(room[:2]...)
	record.Put(room...)
	if !slices.Equal(room, was) {
		t.Errorf("%q", room)
	}
}

// P6.2 with R4, R5: the same again, in memory that no other answer has.
func TestPutAgain(t *testing.T) {
	list := []api.Record{{Key: "k", Value: "1"}, {Key: "l", Value: "2"}}
	first, _ := record.Put(list...)
	record.Put(api.Record{Key: "=", Value: "no"})
	second, _ := record.Put(list...)
	for i := range first {
		first[i] = '#'
	}
	_ = append(first, "more"...)
	third, _ := record.Put(list...)
	for _, b := range [][]byte{second, third} {
		if !bytes.Equal(b, []byte("6 k=1\n6 l=2\n")) {
			t.Errorf("%q", b)
		}
	}
}
