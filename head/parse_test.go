package head_test

import (
	"bytes"
	"slices"
	"strconv"
	"strings"
	"testing"

	"bindle/api"
	"bindle/head"
	"bindle/num"
)

// at are the places at which the fields begin.
const (
	atName, atMode, atUser, atGroup, atSize, atTime = 0, 100, 108, 116, 124, 136
	atSum, atKind, atLink, atMagic, atPrefix        = 148, 156, 157, 257, 345
)

const (
	ustar = "ustar\x0000"
	gnu   = "ustar  \x00"
)

// numbers are the fields of numbers, and their bytes.
var numbers = map[int]int{atMode: 8, atUser: 8, atGroup: 8, atSize: 12, atTime: 12}

// texts are texts by the places at which they are laid into a block.
type texts map[int]string

// block is a block of a ustar header with these texts in it, and its sum.
func block(list texts) []byte {
	b := make([]byte, api.Block)
	copy(b[atMagic:], ustar)
	for at, s := range list {
		copy(b[at:], s)
	}
	return signed(b)
}

// sum is a block's sum, counted at each byte by its place.
func sum(b []byte) int {
	n := 0
	for i, c := range b {
		if i >= 148 && i < 156 {
			n += 32
		} else {
			n += int(c)
		}
	}
	return n
}

// signed writes a block's sum into it.
func signed(b []byte) []byte {
	return signedAs(b, octal(sum(b), 6)+"\x00 ")
}

// signedAs writes these 8 bytes into a block's sum field.
func signedAs(b []byte, s string) []byte {
	if len(s) != 8 {
		panic(s)
	}
	copy(b[atSum:], s)
	return b
}

// octal is n in so many octal digits.
func octal(n, digits int) string {
	s := strconv.FormatInt(int64(n), 8)
	return strings.Repeat("0", digits-len(s)) + s
}

// expect holds Parse of a block against a head; the block is not changed by it.
func expect(t *testing.T, b []byte, want api.Head) {
	t.Helper()
	was := bytes.Clone(b)
	if h, e := head.Parse(b); h != want || e != api.OK {
		t.Errorf("%+v, %v, want %+v", h, e, want)
	}
	if !bytes.Equal(b, was) {
		t.Error("changed")
	}
}

// refuse expects an error, and nothing beside it.
func refuse(t *testing.T, b []byte, want api.Errno) {
	t.Helper()
	was := bytes.Clone(b)
	if h, e := head.Parse(b); h != (api.Head{}) || e != want {
		t.Errorf("%+v, %v, want %v", h, e, want)
	}
	if !bytes.Equal(b, was) {
		t.Error("changed")
	}
}

// whole is a block of which each field has something.
func whole() texts {
	return texts{
		atName: "file", atMode: "0000644\x00", atUser: "0001750\x00", atGroup: "0000144\x00",
		atSize: "00000030071\x00", atTime: "14742325423\x00", atKind: "2", atLink: "to/there", atPrefix: "some/dir",
	}
}

func wholeHead() api.Head {
	return api.Head{
		Name: "some/dir/file", Link: "to/there", Kind: api.Sym, Size: 12345,
		Meta: api.Meta{Mode: 0o644, UID: 1000, GID: 100, Time: 0o14742325423},
	}
}

// P4.1: each field goes to its place.
func TestParse(t *testing.T) {
	expect(t, block(whole()), wholeHead())
	expect(t, block(nil), api.Head{Kind: api.File})
	expect(t, block(texts{atName: "a", atKind: "0"}), api.Head{Name: "a", Kind: api.File})
	expect(t, block(texts{atMode: "7"}), api.Head{Kind: api.File, Meta: api.Meta{Mode: 7}})
	expect(t, block(texts{atUser: "7"}), api.Head{Kind: api.File, Meta: api.Meta{UID: 7}})
	expect(t, block(texts{atGroup: "7"}), api.Head{Kind: api.File, Meta: api.Meta{GID: 7}})
	expect(t, block(texts{atTime: "7"}), api.Head{Kind: api.File, Meta: api.Meta{Time: 7}})
	expect(t, block(texts{atSize: "7"}), api.Head{Kind: api.File, Size: 7})
}

// P4.1: ErrArg, if it has not as many bytes as a block.
func TestParseLength(t *testing.T) {
	b := block(whole())
	for n := range len(b) {
		refuse(t, b[:n], api.ErrArg)
	}
	refuse(t, nil, api.ErrArg)
	refuse(t, append(bytes.Clone(b), 0), api.ErrArg)
	refuse(t, append(bytes.Clone(b), b...), api.ErrArg)
	refuse(t, make([]byte, 511), api.ErrArg)
	refuse(t, make([]byte, 513), api.ErrArg)
}

// P4.1: the sum counts each byte, whatever stands in its own field.
func TestParseSum(t *testing.T) {
	good := block(whole())
	for i := range good {
		if i >= atSum && i < atKind {
			continue
		}
		for _, step := range []byte{1, 128, 255} {
			b := bytes.Clone(good)
			b[i] += step
			refuse(t, b, api.ErrSum)
		}
	}
	n := sum(good)
	for _, wrong := range []int{0, n - 1, n + 1, n - 8*32, n + 8*32, n + 512} {
		refuse(t, signedAs(bytes.Clone(good), octal(wrong, 6)+"\x00 "), api.ErrSum)
	}
}

// P4.1: the sum field is a number as chapter 2 has it, in any of its forms.
func TestParseSumForms(t *testing.T) {
	good := block(whole())
	n := sum(good)
	if n >= 1<<15 || n < 1<<12 {
		t.Fatal(n)
	}
	digits := octal(n, 5)
	binary := string([]byte{128, 0, 0, 0, 0, 0, byte(n >> 8), byte(n)})
	for _, form := range []string{digits + "\x00\x00\x00", digits + "   ", "   " + digits, " " + digits + " \x00", "000" + digits, "0" + digits + "\x00 ", binary} {
		expect(t, signedAs(bytes.Clone(good), form), wholeHead())
	}
	binary = string([]byte{128, 0, 0, 0, 0, 0, byte(n >> 8), byte(n) + 1})
	for _, form := range []string{"        ", "\x00\x00\x00\x00\x00\x00\x00\x00", "00000000", "\x00" + digits + "\x00 ", digits + "  x", "x  " + digits, digits + " 0\x00", "8" + digits + "\x00 ", "-" + digits + "\x00 ", binary, "\xff" + digits + "\x00 ", "\x80\xff\xff\xff\xff\xff\xff\xff"} {
		refuse(t, signedAs(bytes.Clone(good), form), api.ErrSum)
	}
}

// P4.1: a sum of many bytes above 127; all bytes 255; all bytes 0, of which the sum is not 0.
func TestParseSumHigh(t *testing.T) {
	list := whole()
	list[atName] = strings.Repeat("\xff", 100)
	list[atLink] = strings.Repeat("\x80", 100)
	list[atPrefix] = strings.Repeat("\xff", 155)
	list[265] = strings.Repeat("\xff", 80)
	list[500] = strings.Repeat("\xff", 12)
	want := wholeHead()
	want.Name, want.Link = list[atPrefix]+"/"+list[atName], list[atLink]
	expect(t, block(list), want)
	full := bytes.Repeat([]byte{255}, api.Block)
	refuse(t, signed(full), api.ErrText)
	refuse(t, make([]byte, api.Block), api.ErrSum)
}

// P4.1: bytes above 127 are no negative numbers in the sum.
func TestParseSumNegative(t *testing.T) {
	list := whole()
	list[atName] = "\xe4"
	b := block(list)
	refuse(t, signedAs(bytes.Clone(b), octal(sum(b)-256, 6)+"\x00 "), api.ErrSum)
	want := wholeHead()
	want.Name = "some/dir/\xe4"
	expect(t, b, want)
}

// P4.1: ErrText of each magic but two.
func TestParseMagic(t *testing.T) {
	list := whole()
	list[atMagic] = gnu
	want := wholeHead()
	want.Name, want.GNU = "file", true
	expect(t, block(list), want)
	for _, magic := range []string{ustar, gnu} {
		for i := range 8 {
			for c := range 256 {
				b := []byte(magic)
				b[i] = byte(c)
				if string(b) == magic {
					continue
				}
				list[atMagic] = string(b)
				refuse(t, block(list), api.ErrText)
			}
		}
	}
	for _, magic := range []string{"\x00\x00\x00\x00\x00\x00\x00\x00", "ustar\x00\x00\x00", "ustar   ", "ustar00\x00", "ustar000", "ustar\x00 \x00", " ustar\x000", "USTAR\x0000", "        "} {
		list[atMagic] = magic
		refuse(t, block(list), api.ErrText)
	}
}

// P4.1: of the name's prefix: only if there is one, and the block is none of GNU's.
func TestParseName(t *testing.T) {
	for _, x := range []struct{ name, prefix, magic, want string }{
		{"a", "", ustar, "a"},
		{"a", "", gnu, "a"},
		{"a", "p", ustar, "p/a"},
		{"a", "p", gnu, "a"},
		{"", "", ustar, ""},
		{"", "p", ustar, "p/"},
		{"", "p", gnu, ""},
		{"a", "\x00p", ustar, "a"},
		{"a", "p\x00q", ustar, "p/a"},
		{"a/", "p/", ustar, "p//a/"},
		{"/a", "/", ustar, "///a"},
		{"../a", "..", ustar, "../../a"},
		{"a\x00b", "", ustar, "a"},
		{"\x00b", "", ustar, ""},
		{"\x00b", "p", ustar, "p/"},
		{" a ", " p ", ustar, " p / a "},
		{"\xff\xfe\n", "\x80", ustar, "\x80/\xff\xfe\n"},
		{strings.Repeat("n", 99), "", ustar, strings.Repeat("n", 99)},
		{strings.Repeat("n", 100), "", ustar, strings.Repeat("n", 100)},
		{strings.Repeat("n", 100), strings.Repeat("p", 155), ustar, strings.Repeat("p", 155) + "/" + strings.Repeat("n", 100)},
		{strings.Repeat("n", 100), strings.Repeat("p", 155), gnu, strings.Repeat("n", 100)},
		{strings.Repeat("n", 100), strings.Repeat("p", 154), ustar, strings.Repeat("p", 154) + "/" + strings.Repeat("n", 100)},
	} {
		b := block(texts{atName: x.name, atPrefix: x.prefix, atMagic: x.magic, atMode: "7777777\x00", atKind: "5"})
		expect(t, b, api.Head{Name: x.want, Kind: api.Dir, Meta: api.Meta{Mode: 0o7777777}, GNU: x.magic == gnu})
	}
}

// P4.1: the link goes up to its first byte 0, or to the field's end.
func TestParseLink(t *testing.T) {
	for _, x := range [][2]string{
		{"", ""}, {"a", "a"}, {"a\x00b", "a"}, {"\x00b", ""}, {"../x", "../x"}, {" ", " "},
		{strings.Repeat("l", 99), strings.Repeat("l", 99)},
		{strings.Repeat("l", 100), strings.Repeat("l", 100)},
	} {
		expect(t, block(texts{atLink: x[0], atPrefix: "p", atName: "n"}), api.Head{Name: "p/n", Link: x[1], Kind: api.File})
	}
}

// P4.1: all kinds are as they are, but a byte 0.
func TestParseKind(t *testing.T) {
	for c := range 256 {
		want := byte(c)
		if c == 0 {
			want = '0'
		}
		expect(t, block(texts{atKind: string([]byte{byte(c)})}), api.Head{Kind: want})
	}
}

// fill is a number's field, in base 256.
func fill(n, wide int) string {
	b := make([]byte, wide)
	for i := wide - 1; i > 0; i-- {
		b[i] = byte(n)
		n >>= 8
	}
	b[0] = 128
	return string(b)
}

// withNumber is a head of one number.
func withNumber(at, n int) api.Head {
	h := api.Head{Kind: api.File}
	switch at {
	case atMode:
		h.Meta.Mode = n
	case atUser:
		h.Meta.UID = n
	case atGroup:
		h.Meta.GID = n
	case atSize:
		h.Size = n
	case atTime:
		h.Meta.Time = n
	}
	return h
}

// P4.1: the numbers of chapter 2, of as many bytes as the fields have.
func TestParseNumbers(t *testing.T) {
	for at, wide := range numbers {
		for s, n := range map[string]int{
			"": 0, " ": 0, "0": 0, "17": 15, "  17 \x00 ": 15, "17\x00": 15,
			strings.Repeat("7", wide):            1<<(3*wide) - 1,
			strings.Repeat("7", wide-1) + " ":    1<<(3*wide-3) - 1,
			strings.Repeat(" ", wide-1) + "5":    5,
			strings.Repeat(" ", wide):            0,
			fill(0, wide):                        0,
			fill(1, wide):                        1,
			fill(1<<48+3, wide):                  1<<48 + 3,
			"\x80":                               0,
			strings.Repeat("0", wide-1) + "\x00": 0,
		} {
			expect(t, block(texts{at: s}), withNumber(at, n))
		}
	}
	for _, at := range []int{atSize, atTime} {
		expect(t, block(texts{at: fill(num.Max-1, 12)}), withNumber(at, num.Max-1))
		expect(t, block(texts{at: fill(num.Max, 12)}), withNumber(at, num.Max))
		refuse(t, block(texts{at: fill(num.Max+1, 12)}), api.ErrNumber)
		refuse(t, block(texts{at: "\x80" + strings.Repeat("\xff", 11)}), api.ErrNumber)
	}
	for _, at := range []int{atMode, atUser, atGroup} {
		expect(t, block(texts{at: fill(1<<56-1, 8)}), withNumber(at, 1<<56-1))
	}
}

// P4.1: ErrNumber of each field of a number that has none, in both kinds of blocks.
func TestParseNoNumber(t *testing.T) {
	for at, wide := range numbers {
		for _, s := range []string{
			"8", "x", "-1", "+1", "1 2", "1\x002", "\x001", "0x7", "\x81", "\xff", " \x80", "\t1",
			strings.Repeat("7", wide-1) + "8", strings.Repeat("\xff", wide), strings.Repeat(" ", wide-1) + "x",
		} {
			for _, magic := range []string{ustar, gnu} {
				list := whole()
				list[at], list[atMagic] = s, magic
				refuse(t, block(list), api.ErrNumber)
			}
		}
	}
}

// P4.1: what stands elsewhere counts for nothing (but in the sum).
func TestParseElsewhere(t *testing.T) {
	for at := range api.Block {
		if at < 265 || at >= 345 && at < 500 {
			continue
		}
		for _, s := range []string{"\x01", "7", "\xff"} {
			list := whole()
			list[at] = s
			expect(t, block(list), wholeHead())
		}
	}
	list := whole()
	list[265], list[500] = strings.Repeat("u", 80), strings.Repeat("\xff", 12)
	expect(t, block(list), wholeHead())
}

// P4.1: the first error is told: length, sum, magic, numbers.
func TestParseFirst(t *testing.T) {
	list := whole()
	list[atMagic], list[atSize] = "xxxxxxxx", "xx"
	b := block(list)
	refuse(t, b, api.ErrText)
	refuse(t, b[:511], api.ErrArg)
	b[atName]++
	refuse(t, b, api.ErrSum)
	refuse(t, b[:511], api.ErrArg)
	list[atMagic] = ustar
	b = block(list)
	refuse(t, b, api.ErrNumber)
	b[atName]++
	refuse(t, b, api.ErrSum)
	list[atMagic], list[atSize] = "xxxxxxxx", ""
	b = block(list)
	b[atName]++
	refuse(t, b, api.ErrSum)
}

// P4.1 with R4: neither a block nor its spare room is changed, nor is it kept.
func TestParseLeavesBlock(t *testing.T) {
	room := append(block(whole()), "more"...)
	was := bytes.Clone(room)
	h, e := head.Parse(room[:api.Block])
	if h != wholeHead() || e != api.OK || !bytes.Equal(room, was) {
		t.Error(h, e)
	}
	for i := range room {
		room[i] = 'x'
	}
	if h != wholeHead() {
		t.Error(h)
	}
}

// P4.1: Zero, of any lengths, with another byte at each place.
func TestZero(t *testing.T) {
	if !head.Zero(nil) || !head.Zero([]byte{}) {
		t.Error("none")
	}
	for _, n := range []int{1, 2, 511, 512, 513, 1024} {
		b := make([]byte, n)
		if !head.Zero(b) {
			t.Error(n)
		}
		for i := range b {
			for _, c := range []byte{1, '0', 128, 255} {
				b[i] = c
				if head.Zero(b) || b[i] != c {
					t.Error(n, i, c)
				}
			}
			b[i] = 0
		}
	}
	if head.Zero(bytes.Repeat([]byte{128}, 512)) || head.Zero(bytes.Repeat([]byte{1, 255}, 256)) || head.Zero(block(nil)) {
		t.Error("a sum that wraps round")
	}
	if room := []byte{0, 0, 1}; !head.Zero(room[:2]) || !slices.Equal(room, []byte{0, 0, 1}) {
		t.Error("spare room")
	}
}
