package record_test

import (
	"bytes"
	"regexp"
	"slices"
	"strconv"
	"strings"
	"testing"
	"unicode/utf8"

	"bindle/api"
	"bindle/record"
)

// parses expects Parse to answer records.
func parses(t *testing.T, b string, want ...api.Record) {
	t.Helper()
	if got, e := record.Parse([]byte(b)); e != api.OK || !slices.Equal(got, want) {
		t.Errorf("Parse(%.100q): %.100q, %v, want %.100q", b, got, e, want)
	}
}

// refuses expects Parse to answer an error, and nothing beside it.
func refuses(t *testing.T, b string, want api.Errno) {
	t.Helper()
	if got, e := record.Parse([]byte(b)); e != want || len(got) != 0 {
		t.Errorf("Parse(%.100q): %.100q, %v, want %v", b, got, e, want)
	}
}

// line puts the right number ahead of what stands behind a line's digits.
func line(behind string) string {
	for digits := 1; ; digits++ {
		if n := strconv.Itoa(digits + len(behind)); len(n) == digits {
			return n + behind
		}
	}
}

// lead is what a line begins with.
var lead = regexp.MustCompile(`\A([1-9][0-9]{0,6}) `)

// model is P6.1 once more, with a pattern.
func model(b string) ([]api.Record, api.Errno) {
	var list []api.Record
	for b != "" {
		m := lead.FindStringSubmatch(b)
		if m == nil {
			return nil, api.ErrRecord
		}
		wide, _ := strconv.Atoi(m[1])
		if wide > len(b) || wide < len(m[0])+3 || b[wide-1] != '\n' {
			return nil, api.ErrRecord
		}
		text := b[len(m[0]) : wide-1]
		at := strings.IndexByte(text, '=')
		if at < 1 {
			return nil, api.ErrRecord
		}
		if !utf8.ValidString(text) || strings.IndexByte(text, 0) >= 0 {
			return nil, api.ErrText
		}
		list = append(list, api.Record{Key: text[:at], Value: text[at+1:]})
		b = b[wide:]
	}
	return list, api.OK
}

// agrees holds Parse against the model.
func agrees(t *testing.T, b string) {
	t.Helper()
	want, wantE := model(b)
	got, e := record.Parse([]byte(b))
	if e != wantE || !slices.Equal(got, want) {
		t.Errorf("Parse(%q): %q, %v, want %q, %v", b, got, e, want, wantE)
	}
}

// P6.1: lines of one record; the chapter's example.
func TestParse(t *testing.T) {
	for b, want := range map[string]api.Record{
		"9 path=a\n":            {Key: "path", Value: "a"},
		"5 k=\n":                {Key: "k"},
		"6 k=v\n":               {Key: "k", Value: "v"},
		"7 kk=v\n":              {Key: "kk", Value: "v"},
		"8 k=a=b\n":             {Key: "k", Value: "a=b"},
		"6 k==\n":               {Key: "k", Value: "="},
		"9 k=====\n":            {Key: "k", Value: "===="},
		"6 k=\n\n":              {Key: "k", Value: "\n"},
		"8 k=a\nb\n":            {Key: "k", Value: "a\nb"},
		"9 k=\n\n\n\n\n":        {Key: "k", Value: "\n\n\n\n"},
		"11 k=5 k=\n\n":         {Key: "k", Value: "5 k=\n"},
		"6 \n=v\n":              {Key: "\n", Value: "v"},
		"6  =v\n":               {Key: " ", Value: "v"},
		"8   =  \n":             {Key: "  ", Value: "  "},
		"6 1=2\n":               {Key: "1", Value: "2"},
		"13 path=\u00e9/x\n":    {Key: "path", Value: "\u00e9/x"},
		"7 \u00e9=v\n":          {Key: "\u00e9", Value: "v"},
		"16 SCHILY.dev=1\n":     {Key: "SCHILY.dev", Value: "1"},
		"20 mtime=123456.789\n": {Key: "mtime", Value: "123456.789"},
	} {
		parses(t, b, want)
	}
}

// P6.1: of nothing there are none.
func TestParseNothing(t *testing.T) {
	for _, b := range [][]byte{nil, {}} {
		if list, e := record.Parse(b); len(list) != 0 || e != api.OK {
			t.Error(list, e)
		}
	}
}

// P6.1: records in order, of one key too.
func TestParseMany(t *testing.T) {
	k, l := api.Record{Key: "k", Value: "1"}, api.Record{Key: "l", Value: "a=b\nc"}
	parses(t, "6 k=1\n11 l=a=b\nc\n", k, l)
	parses(t, "11 l=a=b\nc\n6 k=1\n", l, k)
	parses(t, "6 k=1\n6 k=1\n6 k=2\n5 k=\n6 k=1\n", k, k, api.Record{Key: "k", Value: "2"}, api.Record{Key: "k"}, k)
	var b strings.Builder
	var want []api.Record
	for i := range 5000 {
		n := strconv.Itoa(i)
		b.WriteString(line(" " + n + "=v" + n + "\n"))
		want = append(want, api.Record{Key: n, Value: "v" + n})
	}
	parses(t, b.String(), want...)
}

// P6.1: the digits that a line begins with, and the blank behind them.
func TestParseDigits(t *testing.T) {
	for _, b := range []string{
		" ", "0", "5", "5 ", "0 ", "k", "=", "\n", "k=", "k=v\n", " k=\n", "  k=\n", " 5 k=\n", "\n5 k=\n", "x k=\n", "k 5=\n",
		"05 k=\n", "06 k=\n", "006 k=v\n", "0 k=\n", "00 k=\n", "0000006 k=v\n", "0x6 k=v\n", "0b1 k=\n",
		"+5 k=\n", "-5 k=\n", "+6 k=\n", "-6 k=\n", "5. k=\n", "6. k=\n", "5.0 k=\n", "5e0 k=\n", "5_ k=\n", "1_0 k=aaa\n", "5, k=\n", "5a k=\n", "a5 k=\n", "5=k \n",
		"5k=\n", "5k= \n", "5\tk=\n", "5\nk=\n", "5\x00k=\n", "5\u00a0k=\n", "5\xa0k=\n", "6\u3000=\n",
		"\uff15 k=\n", "\u0665 k=\n", "\xb5 k=\n", "\x05 k=\n", "5\x00 k=\n",
		"5=k=\n", "/ k=\n", ": k=\n",
	} {
		refuses(t, b, api.ErrRecord)
	}
	parses(t, "5 k=\n", api.Record{Key: "k"})
}

// P6.1: each byte as a line's first one, and as the one behind its digit.
func TestParseLeadBytes(t *testing.T) {
	for c := range 256 {
		s := string([]byte{byte(c)})
		for _, b := range []string{s + " k=\n", s + " k=v\n", "5" + s + "k=\n", "1" + s + " k=vvvvv\n", s + "5 k=vvvvvvvvvv\n", s + "5 k=\n", "5 k=" + s} {
			agrees(t, b)
		}
	}
}

// P6.1: from 1 to 7 digits, whether so many bytes are there or not.
func TestParseSevenDigits(t *testing.T) {
	for wide := 9; wide <= 9999999; wide = wide*10 + 9 {
		for _, n := range []int{wide, wide + 1} {
			digits := strconv.Itoa(n)
			value := strings.Repeat("v", n-len(digits)-4)
			b := digits + " k=" + value + "\n"
			if len(digits) > 7 {
				refuses(t, b, api.ErrRecord)
				refuses(t, "5 k=\n"+b, api.ErrRecord)
			} else {
				parses(t, b, api.Record{Key: "k", Value: value})
				refuses(t, b[:len(b)-1], api.ErrRecord)
			}
		}
	}
	for _, b := range []string{
		"12345678 k=v\n", "9999999 k=v\n", "1234567 k=v\n", "10000000 k=v\n", "18446744073709551622 k=v\n", "4294967302 k=v\n", "9223372036854775807 k=v\n",
		"9223372036854775808 k=v\n", strings.Repeat("9", 1000) + " k=v\n", "1" + strings.Repeat("0", 100) + " k=\n", strings.Repeat("0", 1000) + "6 k=v\n", strings.Repeat("6", 1000),
	} {
		refuses(t, b, api.ErrRecord)
	}
}

// P6.1: no more bytes than are left, and at least three behind the blank.
func TestParseWide(t *testing.T) {
	for _, b := range []string{
		"1 k=\n", "2 k=\n", "3 k=\n", "4 k=\n", "6 k=\n", "7 k=\n", "9 k=\n", "10 k=\n", "99 k=\n", "9999999 k=\n",
		"1 ", "2 ", "3 \n", "3 \n\n", "4 k\n", "4 =\n", "4 \n\n\n", "4 k=\n\n", "5 k=", "5 k", "5 =\n", "5 k\n", "6 k=v", "7 k=v\n", "5 k=v\n", "1 \n", "2 \n",
		"11 k=\n", "12 k=\n", "10 k=vvvvv", "11 k=vvvv\n", "10 \n\n\n\n\n\n",
	} {
		refuses(t, b, api.ErrRecord)
	}
	// All numbers ahead of a line: just one is right.
	for n := range 1200 {
		for _, size := range []int{0, 1, 4, 5, 6, 92, 93, 94, 95, 992, 993} {
			agrees(t, strconv.Itoa(n)+" k="+strings.Repeat("v", size)+"\n")
			agrees(t, strconv.Itoa(n)+" k="+strings.Repeat("\n", size)+"\n")
		}
	}
}

// P6.1: where two numbers of digits would do, both are read.
func TestParseTwoNumbers(t *testing.T) {
	for _, wide := range []int{9, 99, 999, 9999, 99999, 999999} {
		less, more := strconv.Itoa(wide), strconv.Itoa(wide+1)
		value := strings.Repeat("v", wide-len(less)-len(" k=\n"))
		parses(t, less+" k="+value+"\n", api.Record{Key: "k", Value: value})
		parses(t, more+" k="+value+"\n", api.Record{Key: "k", Value: value})
	}
}

// P6.1: a line's last byte is 10.
func TestParseLast(t *testing.T) {
	for c := range 256 {
		last := string([]byte{byte(c)})
		for _, b := range []string{"5 k=" + last, "6 k=v" + last, "6 k=\n" + last, "5 k=" + last + "5 l=\n", "7 k=v" + last + "\n", "6 k=v" + last + "\n"} {
			agrees(t, b)
		}
	}
	for _, b := range []string{"5 k=x", "5 k=\r", "5 k=\x00", "6 k=\n\r", "5 k=\v", "6 k=v\x8a", "6 k=\n\x00", "5 k==", "5 k= "} {
		refuses(t, b, api.ErrRecord)
	}
}

// P6.1: the first = ends the key, which has at least one byte.
func TestParseKey(t *testing.T) {
	for _, text := range []string{"kv", "=v", "==", "=k=", "===", "=kv", "\n\n\n", "=\n=", "kkvv", "k:vvv", "\uff1d\uff1d", "=" + strings.Repeat("k=", 50)} {
		refuses(t, line(" "+text+"\n"), api.ErrRecord)
	}
	// An = of another line is none of this one's.
	refuses(t, "5 kv\n5 k=\n", api.ErrRecord)
	refuses(t, "5 kv\n=v\n", api.ErrRecord)
	long := strings.Repeat("k", 5000)
	parses(t, line(" "+long+"=\n"), api.Record{Key: long})
	refuses(t, line(" "+long+"\n"), api.ErrRecord)
}

// P6.1: no bound is told of what a line that is read has, but its seven digits.
func TestParseLong(t *testing.T) {
	for _, size := range []int{99998, 99999, 100000, 200000} {
		long := strings.Repeat("v", size)
		parses(t, line(" k="+long+"\n"), api.Record{Key: "k", Value: long})
		parses(t, line(" "+long+"=v\n"), api.Record{Key: long, Value: "v"})
	}
}

// wrong are texts that are not right.
func wrong() []string {
	return []string{
		"\x00", "\x80", "\xbf", "\xff", "\xfe", "\xc0\x80", "\xc0\xaf", "\xc1\xbf", "\xe0\x80\xaf", "\xf0\x80\x80\xaf", "\xed\xa0\x80", "\xed\xbf\xbf", "\xf4\x90\x80\x80",
		"\xf8\x88\x80\x80\x80", "\xc3", "\xe4\xb8", "\xf0\x9f\x98", "a\x00", "\x00a", "\u00e9\xa9",
	}
}

// P6.1: ErrText, if a key or a value is no right text, wherever in it.
func TestParseText(t *testing.T) {
	for _, bad := range wrong() {
		for _, text := range []string{
			"k=" + bad, "k=v" + bad, "k=" + bad + "v", "k=v" + bad + "v", bad + "=", bad + "=v", "k" + bad + "=v", bad + "k=v", bad + "=" + bad, "k=v=" + bad, "k=v\n" + bad,
			"k=" + strings.Repeat("v", 300) + bad, "k=" + bad + strings.Repeat("v", 300), strings.Repeat("k", 300) + bad + "=v",
		} {
			refuses(t, line(" "+text+"\n"), api.ErrText)
		}
	}
	for _, good := range []string{"\x01", "\x7f", "\u0080", "\u07ff", "\u0800", "\ud7ff", "\ue000", "\ufeff", "\ufffd", "\uffff", "\U00010000", "\U0010ffff", "e\u0301"} {
		parses(t, line(" k="+good+"\n"), api.Record{Key: "k", Value: good})
		parses(t, line(" "+good+"=v\n"), api.Record{Key: good, Value: "v"})
	}
	// A code point that a line's end, or its =, would cut in two is none.
	refuses(t, "6 k=\xc3\n\xa96 k=v\n", api.ErrText)
	refuses(t, "6 \xc3=\xa9\n", api.ErrText)
}

// P6.1: of one line ErrRecord is told first, whatever its text is.
func TestParseRecordFirst(t *testing.T) {
	for _, bad := range wrong() {
		for _, text := range []string{bad, "=" + bad, "=" + bad + "=", bad + bad} {
			refuses(t, line(" "+text+"\n"), api.ErrRecord)
		}
		// No byte 10 at its end; more bytes than there are; a wrong beginning.
		refuses(t, line(" k="+bad+"x"), api.ErrRecord)
		refuses(t, "99 k="+bad+"\n", api.ErrRecord)
		refuses(t, "0"+line(" k="+bad+"\n"), api.ErrRecord)
		refuses(t, bad+line(" k=v\n"), api.ErrRecord)
	}
}

// P6.1: the first line that has an error tells it, and no records are beside it, those ahead neither.
func TestParseFirstLine(t *testing.T) {
	good, none, text := "6 k=v\n", "5 kv\n", "6 k=\xff\n"
	for b, want := range map[string]api.Errno{
		good + none:                        api.ErrRecord,
		good + text:                        api.ErrText,
		none + good:                        api.ErrRecord,
		text + good:                        api.ErrText,
		none + text:                        api.ErrRecord,
		text + none:                        api.ErrText,
		good + none + text:                 api.ErrRecord,
		good + text + none:                 api.ErrText,
		good + text + good + none:          api.ErrText,
		good + "\n":                        api.ErrRecord,
		good + "\x00":                      api.ErrRecord,
		good + strings.Repeat("\x00", 512): api.ErrRecord,
		good + " ":                         api.ErrRecord,
		good + "5 k=":                      api.ErrRecord,
		good + "7 k":                       api.ErrRecord,
		good + "6":                         api.ErrRecord,
		good + good[1:]:                    api.ErrRecord,
		text + "\x00":                      api.ErrText,
		"\n" + good:                        api.ErrRecord,
	} {
		refuses(t, b, want)
	}
}

// P6.1: all short texts of pieces at which the answer may turn.
func TestParseAll(t *testing.T) {
	pieces := []string{"0", "5", "6", "1", " ", "k", "=", "\n", "\xff", "5 k=\n"}
	var walk func(b string, left int)
	walk = func(b string, left int) {
		agrees(t, b)
		if left == 0 {
			return
		}
		for _, p := range pieces {
			walk(b+p, left-1)
		}
	}
	walk("", 4)
	for _, b := range []string{"5 ", "6 ", "7 ", "8 ", "10 ", "11 "} {
		walk(b, 4)
	}
}

// P6.1: a list of lines with one byte changed, each byte to each other one.
func TestParseOneByte(t *testing.T) {
	whole := []byte("9 path=a\n11 k=5 k=\n\n7 \u00e9=v\n")
	for at := range whole {
		for c := range 256 {
			b := bytes.Clone(whole)
			b[at] = byte(c)
			agrees(t, string(b))
		}
	}
	for at := range whole {
		agrees(t, string(whole[:at]))
		agrees(t, string(whole[at:]))
	}
}

// P6.1 with R4: bytes are neither changed, their spare room included, nor kept.
func TestParseLeavesBytes(t *testing.T) {
	room := []byte("6 k=v\n7 kk=w\n6 k=x\n")
	was := bytes.Clone(room)
	b := room[:13]
	list, e := record.Parse(b)
	if e != api.OK || !bytes.Equal(room, was) {
		t.Errorf("%v, %q", e, room)
	}
	for i := range room {
		room[i] = '#'
	}
	want := []api.Record{{Key: "k", Value: "v"}, {Key: "kk", Value: "w"}}
	if !slices.Equal(list, want) {
		t.Errorf("%q", list)
	}
}

// P6.1 with R4, R5: the same again, in new memory.
func TestParseAgain(t *testing.T) {
	b := []byte("6 k=v\n7 kk=w\n")
	first, _ := record.Parse(b)
	record.Parse([]byte("6 k=\xff\n"))
	second, _ := record.Parse(b)
	for i := range first {
		first[i] = api.Record{}
	}
	_ = append(first, api.Record{Key: "more"})
	if want := []api.Record{{Key: "k", Value: "v"}, {Key: "kk", Value: "w"}}; !slices.Equal(second, want) {
		t.Errorf("%q", second)
	}
}
