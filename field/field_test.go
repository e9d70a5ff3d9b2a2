package field_test

import (
	"bytes"
	"math"
	"math/big"
	"regexp"
	"slices"
	"strings"
	"testing"

	"bindle/field"
	"bindle/num"
)

// expect holds Parse of b against a number, or against -1: false.
func expect(t *testing.T, b string, want int) {
	t.Helper()
	n, ok := field.Parse([]byte(b))
	if want < 0 {
		if n != 0 || ok {
			t.Errorf("Parse(%q): %d, %v, want 0, false", b, n, ok)
		}
		return
	}
	if n != want || !ok {
		t.Errorf("Parse(%q): %d, %v, want %d, true", b, n, ok, want)
	}
}

// exact is P2.1 once more, with a pattern and exact numbers; -1 is false.
func exact(b string) int {
	if b == "" {
		return -1
	}
	n := new(big.Int)
	if b[0] == 128 {
		n.SetBytes([]byte(b[1:]))
	} else {
		part := octal.FindStringSubmatch(b)
		if part == nil {
			return -1
		}
		n.SetString("0"+part[1], 8)
	}
	if n.Cmp(big.NewInt(num.Max)) > 0 {
		return -1
	}
	return int(n.Int64())
}

// octal cuts the digits of base 8 out of a field.
var octal = regexp.MustCompile(`\A *([0-7]*)[ \x00]*\z`)

// P2.1: fields of octal digits.
func TestParseOctal(t *testing.T) {
	for b, want := range map[string]int{
		"0":                  0,
		"7":                  7,
		"10":                 8,
		"01234567":           0o1234567,
		"0000644\x00":        0o644,
		"000644 \x00":        0o644,
		"000644\x00 ":        0o644,
		"  644 ":             0o644,
		"644":                0o644,
		" 644":               0o644,
		"644 \x00 \x00\x00 ": 0o644,
		" \x00":              0,
		"\x00":               0,
		"\x00\x00":           0,
		"\x00 ":              0,
		"\x00 \x00":          0,
		" \x00 \x00 ":        0,
		" ":                  0,
		"    ":               0,
		"0\x00":              0,
		"00000000000\x00":    0,
		"77777777777\x00":    1<<33 - 1,
		"7777777":            2097151,
	} {
		expect(t, b, want)
	}
}

// P2.1: an empty field is no number, a blank one is 0.
func TestParseEmpty(t *testing.T) {
	if n, ok := field.Parse(nil); n != 0 || ok {
		t.Error(n, ok)
	}
	if n, ok := field.Parse([]byte{}); n != 0 || ok {
		t.Error(n, ok)
	}
	expect(t, " ", 0)
}

// P2.1: anything else is no number.
func TestParseElse(t *testing.T) {
	for _, b := range []string{
		"8", "9", "18", "81", "/", ":", "1/", "1:", "-1", "+1", "- 1", "0x1", "0o7", "1_0", "a", "7a",
		"12 3", "12\x003", "1 2", "1\x002", " 1 2 ", "\x0012", " \x0012", "\x00 12", "\x001", "\x00 1\x00",
		"\t1", "1\t", "1\n", "\n1", "\r", "\v", "1.", "1,", "\x01", "1\x01", "\x7f", "1\x7f",
		"\x81", "\x81\x01", "\xff", "\xff\xff\xff\xff", "\xff\x01", "\x7f\x01", "\xc2\xa01", "1\xc2\xa0", "１",
		" \x80", " \x80\x01", "\x00\x80", "1\x80", "0\x80\x01", "\xb0", "\xb1", "\xb7", "\x10", "\x17",
	} {
		expect(t, b, -1)
	}
}

// P2.1: each single byte.
func TestParseByte(t *testing.T) {
	for c := range 256 {
		want := -1
		switch {
		case c >= '0' && c <= '7':
			want = c - '0'
		case c == ' ' || c == 0 || c == 128:
			want = 0
		}
		expect(t, string([]byte{byte(c)}), want)
	}
}

// P2.1: each byte ahead of, between and behind digits.
func TestParseByteAmong(t *testing.T) {
	for c := range 256 {
		s := string([]byte{byte(c)})
		for _, b := range []string{s + "12", "1" + s + "2", "12" + s, " " + s + "12", "12" + s + "\x00", "\x80" + s, "\x80" + s + "\x01"} {
			expect(t, b, exact(b))
		}
	}
}

// P2.1: octal digits up to num.Max, and above it, also where wrapped round they would be small.
func TestParseOctalMax(t *testing.T) {
	for b, want := range map[string]int{
		"377777777777777777777":        num.Max - 1,
		"400000000000000000000":        num.Max,
		"400000000000000000001":        -1,
		"400000000000000000007":        -1,
		"400000000000000000010":        -1,
		"777777777777777777777":        -1,
		"1000000000000000000000":       -1,
		"2000000000000000000000":       -1, // would be 0
		"2000000000000000000005":       -1, // would be 5
		"4000000000000000000000":       -1, // would be 0
		"1777777777777777777777":       -1,
		"  400000000000000000000 \x00": num.Max,
		"  400000000000000000001 \x00": -1,
		"4000000000000000000008":       -1,
	} {
		expect(t, b, want)
	}
	ahead := strings.Repeat("0", 1000)
	expect(t, ahead+"400000000000000000000", num.Max)
	expect(t, ahead+"400000000000000000001", -1)
	expect(t, "1"+ahead, -1)
	expect(t, "5"+strings.Repeat("0", 63), -1)
}

// P2.1: fields of base 256.
func TestParseBinary(t *testing.T) {
	for b, want := range map[string]int{
		"\x80":                                     0,
		"\x80\x00":                                 0,
		"\x80\x01":                                 1,
		"\x80\xff":                                 255,
		"\x80\x01\x00":                             256,
		"\x80\x01\x02\x03":                         0x010203,
		"\x80\x80":                                 128,
		"\x80 ":                                    32, // blanks are bytes as others
		"\x80 1":                                   32*256 + 49,
		"\x801 ":                                   49*256 + 32,
		"\x801\x00":                                49 * 256,
		"\x80\x00\x00\x00\x08":                     8,
		"\x80\x00\x00\x00\x00\x20\x00\x00":         1 << 21,
		"\x80\x3f\xff\xff\xff\xff\xff\xff\xff":     num.Max - 1,
		"\x80\x40\x00\x00\x00\x00\x00\x00\x00":     num.Max,
		"\x80\x40\x00\x00\x00\x00\x00\x00\x01":     -1,
		"\x80\x40\x00\x00\x00\x00\x00\x01\x00":     -1,
		"\x80\x7f\xff\xff\xff\xff\xff\xff\xff":     -1,
		"\x80\x80\x00\x00\x00\x00\x00\x00\x00":     -1,
		"\x80\xff\xff\xff\xff\xff\xff\xff\xff":     -1,
		"\x80\x01\x00\x00\x00\x00\x00\x00\x00\x00": -1, // would be 0
		"\x80\x01\x00\x00\x00\x00\x00\x00\x00\x05": -1, // would be 5
	} {
		expect(t, b, want)
	}
	ahead := "\x80" + strings.Repeat("\x00", 1000)
	expect(t, ahead, 0)
	expect(t, ahead+"\x05", 5)
	expect(t, ahead+"\x40\x00\x00\x00\x00\x00\x00\x00", num.Max)
	expect(t, ahead+"\x40\x00\x00\x00\x00\x00\x00\x01", -1)
	expect(t, "\x80\x01"+strings.Repeat("\x00", 1000), -1)
}

// P2.1: all short fields of bytes at which an answer may turn.
func TestParseAll(t *testing.T) {
	turns := []byte{0, 1, ' ', '/', '0', '1', '7', '8', 127, 128, 129, 255}
	fields := []string{""}
	for range 4 {
		var longer []string
		for _, b := range fields {
			expect(t, b, exact(b))
			for _, c := range turns {
				longer = append(longer, b+string([]byte{c}))
			}
		}
		fields = longer
	}
	for _, b := range fields {
		expect(t, b, exact(b))
	}
}

// P2.1 with R4: a field is not changed, its spare room included.
func TestParseLeavesField(t *testing.T) {
	for _, s := range []string{"  644 \x00rest", "\x80\x01\x02\x03\x04\x05rest", " \x00"} {
		whole := []byte(s)
		for end := range len(whole) + 1 {
			field.Parse(whole[:end])
			if string(whole) != s {
				t.Errorf("%q of %q", whole, s)
			}
		}
	}
}

// P2.2: Put, by cases; no text is false.
func TestPut(t *testing.T) {
	for _, x := range []struct {
		n, wide int
		want    string
	}{
		{0, 2, "0\x00"},
		{0, 4, "000\x00"},
		{7, 2, "7\x00"},
		{8, 4, "010\x00"},
		{8, 2, "\x80\x08"},
		{255, 2, "\x80\xff"},
		{256, 2, ""},
		{63, 3, "77\x00"},
		{64, 3, "\x80\x00\x40"},
		{511, 4, "777\x00"},
		{512, 4, "\x80\x00\x02\x00"},
		{1<<16 - 1, 3, "\x80\xff\xff"},
		{1 << 16, 3, ""},
		{1<<24 - 1, 4, "\x80\xff\xff\xff"},
		{1 << 24, 4, ""},
		{0o644, 8, "0000644\x00"},
		{2097151, 8, "7777777\x00"},
		{2097152, 8, "\x80\x00\x00\x00\x00\x20\x00\x00"},
		{1<<56 - 1, 8, "\x80\xff\xff\xff\xff\xff\xff\xff"},
		{1 << 56, 8, ""},
		{num.Max, 8, ""},
		{num.Max, 9, "\x80\x40\x00\x00\x00\x00\x00\x00\x00"},
		{num.Max - 1, 9, "\x80\x3f\xff\xff\xff\xff\xff\xff\xff"},
		{1<<33 - 1, 12, "77777777777\x00"},
		{1 << 33, 12, "\x80\x00\x00\x00\x00\x00\x00\x02\x00\x00\x00\x00"},
		{num.Max, 21, "\x80" + strings.Repeat("\x00", 12) + "\x40\x00\x00\x00\x00\x00\x00\x00"},
		{num.Max, 22, "400000000000000000000\x00"},
		{num.Max, 100, strings.Repeat("0", 78) + "400000000000000000000\x00"},
		{0, 100, strings.Repeat("0", 99) + "\x00"},
		{1, 99, strings.Repeat("0", 97) + "1\x00"},
	} {
		b, ok := field.Put(x.n, x.wide)
		if string(b) != x.want || ok != (x.want != "") {
			t.Errorf("Put(%d, %d): %q, %v, want %q", x.n, x.wide, b, ok, x.want)
		}
	}
}

// P2.2: wrong numbers and widths are false, and nothing.
func TestPutWrong(t *testing.T) {
	for _, x := range [][2]int{
		{0, 1}, {0, 0}, {0, -1}, {0, 101}, {0, math.MinInt}, {0, math.MaxInt}, {1, 1}, {1, 101}, {num.Max, 101},
		{-1, 2}, {-1, 8}, {-1, 100}, {-8, 12}, {math.MinInt, 8}, {math.MinInt, 100},
		{num.Max + 1, 9}, {num.Max + 1, 100}, {math.MaxInt, 9}, {math.MaxInt, 100},
		{-1, 1}, {num.Max + 1, 101}, {math.MinInt, math.MinInt}, {math.MaxInt, math.MaxInt},
	} {
		if b, ok := field.Put(x[0], x[1]); len(b) != 0 || ok {
			t.Errorf("Put(%d, %d): %q, %v", x[0], x[1], b, ok)
		}
	}
}

// edges are the numbers at which a digit more is needed.
func edges() []int {
	list := []int{5, 6, 10, 100, 420, 1000000007, num.Max - 2, num.Max - 512}
	for bit := range 62 {
		list = append(list, 1<<bit-1, 1<<bit, 1<<bit+1)
	}
	return append(list, num.Max-1, num.Max)
}

// expected is P2.2 once more, with exact numbers' own texts and bytes.
func expected(n, wide int) []byte {
	exact := big.NewInt(int64(n))
	text := exact.Text(8)
	if len(text) < wide {
		return []byte(strings.Repeat("0", wide-1-len(text)) + text + "\x00")
	}
	raw := exact.Bytes()
	if len(raw) < wide {
		return slices.Concat([]byte{128}, make([]byte, wide-1-len(raw)), raw)
	}
	return nil
}

// P2.2: Put of all edges in all widths, and Parse of what it answers.
func TestPutEdges(t *testing.T) {
	for wide := 2; wide <= 100; wide++ {
		for _, n := range edges() {
			want := expected(n, wide)
			b, ok := field.Put(n, wide)
			if !bytes.Equal(b, want) || ok != (want != nil) {
				t.Errorf("Put(%d, %d): %q, %v, want %q", n, wide, b, ok, want)
			}
			if ok {
				expect(t, string(b), n)
			}
		}
	}
}

// P2.2 with R4: what is answered shares no memory with another answer.
func TestPutNewMemory(t *testing.T) {
	for _, x := range [][2]int{{8, 4}, {512, 4}, {0, 2}, {0, 100}} {
		a, _ := field.Put(x[0], x[1])
		want := string(a)
		clear(a[:cap(a)])
		if b, ok := field.Put(x[0], x[1]); string(b) != want || !ok {
			t.Errorf("Put(%d, %d): %q, %v, want %q", x[0], x[1], b, ok, want)
		}
	}
}
