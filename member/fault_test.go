package member_test

import (
	"bytes"
	"strings"
	"testing"

	"bindle/api"
	"bindle/num"
)

// links are the kinds that go somewhere.
var links = []byte{api.Hard, api.Sym}

// P8.2: an archive cut off anywhere: the header, extension, member or end that is not whole any more is told.
func TestFaultShort(t *testing.T) {
	units := list(
		extension('g', records("uid", "5")),
		with(api.Head{Name: "a", Kind: api.File}, strings.Repeat("b", 600)),
		extension('L', strings.Repeat("n", 150)),
		header(api.Head{Name: "h", Link: "a", Kind: api.Hard}),
		make([]byte, 1024),
	)
	b := open(units...)
	at := 0
	for _, unit := range units {
		for n := range unit {
			answers(t, b[:at+n], nil, api.Fault{E: api.ErrShort, At: at}, nil, []int{100, 3000})
		}
		at += len(unit)
	}
	if _, f := modelRead(b); f.E != api.OK {
		t.Error(f)
	}
}

// P8.2: without an end; with half of one; with blocks of bytes 0 that are none.
func TestFaultNoEnd(t *testing.T) {
	for _, ahead := range []int{0, 1, 3} {
		b := bytes.Repeat(file("a"), ahead)
		at := 512 * ahead
		for _, n := range []int{0, 1, 511, 512, 513, 1023} {
			faults(t, append(bytes.Clone(b), make([]byte, n)...), api.ErrShort, at)
		}
		faults(t, open(b, []byte("abc")), api.ErrShort, at)
		faults(t, open(b, make([]byte, 512), []byte("abc")), api.ErrShort, at)
	}
	faults(t, archive(file("a"), make([]byte, 512), file("b")), api.ErrText, 512)
}

// P8.2: each byte behind the end's first block.
func TestFaultBehindEnd(t *testing.T) {
	b := archive(file("a"), make([]byte, 700))
	for i := 1024; i < len(b); i++ {
		b[i] = byte(1 << (i % 8))
		answers(t, b, nil, api.Fault{E: api.ErrText, At: 512}, nil, []int{600})
		b[i] = 0
	}
	faults(t, archive(make([]byte, 1024), file("a")), api.ErrText, 0)
	faults(t, archive(archive(file("a")), []byte("z")), api.ErrText, 512)
}

// P8.2: extensions that have no member behind them.
func TestFaultNoMember(t *testing.T) {
	for _, kind := range []byte("xLK") {
		for _, text := range []string{"", records("k", "v")} {
			x := extension(kind, text)
			faults(t, archive(x), api.ErrRecord, len(x))
			faults(t, archive(file("a"), x), api.ErrRecord, 512+len(x))
			faults(t, archive(x, extension('g', "")), api.ErrRecord, len(x)+512)
		}
		x := extension(kind, records("k", "v"))
		faults(t, archive(x, file("a"), x), api.ErrRecord, 512+2*len(x))
	}
	x, l, k := extension('x', ""), extension('L', "n"), extension('K', "k")
	faults(t, archive(x, l, k), api.ErrRecord, 512+1024+1024)
}

// P8.2: of two faults at the end: what is short, what is no byte 0, what waits.
func TestFaultEndOrder(t *testing.T) {
	x := extension('x', "")
	faults(t, open(x, make([]byte, 1023)), api.ErrShort, 512)
	faults(t, open(x, make([]byte, 512), []byte("z")), api.ErrShort, 512)
	faults(t, open(x, make([]byte, 512), []byte("z"), make([]byte, 511)), api.ErrText, 512)
	faults(t, open(x, make([]byte, 1024), []byte("z")), api.ErrText, 512)
}

// P8.2: a second x, L or K ahead of a member, whatever stands between.
func TestFaultSecond(t *testing.T) {
	for _, kind := range []byte("xLK") {
		between := list(nil, extension('g', records("uid", "5")))
		for _, other := range []byte("xLK") {
			if other != kind {
				between = append(between, extension(other, "5 k=\n"))
			}
		}
		for _, part := range between {
			for _, text := range []string{"", records("path", "p")} {
				one := extension(kind, text)
				faults(t, archive(one, part, extension(kind, ""), file("a")), api.ErrRecord, len(one)+len(part))
				faults(t, archive(file("a"), one, part, extension(kind, "5 k=\n"), file("a")), api.ErrRecord, 512+len(one)+len(part))
			}
		}
	}
	x, l, k := extension('x', ""), extension('L', "n"), extension('K', "k")
	for _, second := range list(x, l, k) {
		faults(t, archive(x, l, k, second, file("a")), api.ErrRecord, 2560)
	}
}

// P8.2: what chapter 4 says of a block, of each kind, ahead of all else.
func TestFaultHead(t *testing.T) {
	for _, kind := range []byte("0125xgLK3") {
		h := api.Head{Name: "/", Kind: kind, Size: api.MaxBody + 1}
		sum := header(h)
		sum[0]++
		x := extension('x', "")
		for _, ahead := range [][]byte{nil, file("a"), open(x, extension('L', ""), extension('K', ""))} {
			faults(t, archive(ahead, sum), api.ErrSum, len(ahead))
			faults(t, archive(ahead, changed(h, 257, "ustar\x00\x000")), api.ErrText, len(ahead))
			for _, at := range []int{100, 108, 116, 124, 136} {
				faults(t, archive(ahead, changed(h, at, "9")), api.ErrNumber, len(ahead))
			}
		}
	}
	faults(t, archive([]byte(strings.Repeat("z", 512))), api.ErrSum, 0)
}

// P8.2: an extension that is too large, or has no body.
func TestFaultExtensionSize(t *testing.T) {
	for _, kind := range []byte("xgLK") {
		for _, n := range []int{api.MaxBody + 1, 1 << 30, num.Max} {
			h := header(api.Head{Name: "@", Kind: kind, Size: n})
			faults(t, archive(file("a"), h), api.ErrLarge, 512)
			faults(t, open(h), api.ErrLarge, 0)
			faults(t, open(h, make([]byte, api.MaxBody+512)), api.ErrLarge, 0)
		}
		faults(t, open(header(api.Head{Name: "@", Kind: kind, Size: api.MaxBody}), make([]byte, api.MaxBody-1)), api.ErrShort, 0)
		for _, n := range []int{1, 512, 513} {
			h := header(api.Head{Name: "@", Kind: kind, Size: n})
			for have := range (n + 511) / 512 {
				faults(t, open(file("a"), h, make([]byte, 512*have)), api.ErrShort, 512)
				faults(t, open(file("a"), h, make([]byte, 512*have+511)), api.ErrShort, 512)
			}
		}
	}
}

// P8.2: records that are none, own or global.
func TestFaultRecords(t *testing.T) {
	for _, kind := range []byte("xg") {
		for text, e := range map[string]api.Errno{
			"6 k=\n": api.ErrRecord, "05 k=\n": api.ErrRecord, "5 k= ": api.ErrRecord, "5 k=\n\x00": api.ErrRecord, "\x00": api.ErrRecord, "4 =\n": api.ErrRecord,
			"6 k=\xff\n": api.ErrText, "6 k=\x00\n": api.ErrText, "5 \xff=\n": api.ErrText, "5 k=\n6 \xff=v\n": api.ErrText,
			"5 k=\n6 \xff=\n": api.ErrRecord, "5 k=\n6 \xff=vw": api.ErrRecord,
		} {
			faults(t, archive(extension(kind, text), file("b")), e, 0)
			faults(t, archive(file("a"), extension(kind, text)), e, 512)
		}
	}
	reads(t, list(extension('L', "6 k=\n"), extension('K', "\xff"), file("a")), isFile("6 k=\n"))
}

// P8.2: all kinds that are none.
func TestFaultKind(t *testing.T) {
	for kind := 1; kind < 256; kind++ {
		if bytes.IndexByte([]byte("0125xgLK"), byte(kind)) < 0 {
			faults(t, archive(file("a"), header(api.Head{Name: "b", Kind: byte(kind)})), api.ErrType, 512)
		}
	}
}

// P8.2: chapter 7's error, where the member is; what is of no member is no error.
func TestFaultApply(t *testing.T) {
	for _, key := range []string{"uid", "gid", "mtime", "size"} {
		for _, kind := range kinds {
			h := header(api.Head{Name: "a", Link: "b", Kind: kind})
			for _, value := range []string{"x", "-1", "1234567890123456789", " ", "0x1"} {
				x := records(key, value)
				faults(t, archive(extension('x', x), h), api.ErrNumber, 1024)
				faults(t, archive(extension('g', x), h), api.ErrNumber, 1024)
				faults(t, archive(extension('g', x), extension('L', "n"), h), api.ErrNumber, 2048)
				answers(t, archive(extension('g', x), extension('x', records(key, "")), header(api.Head{Name: "a", Kind: api.Dir})), []api.Member{{Path: "a", Kind: api.Dir}}, api.Fault{}, nil)
			}
		}
	}
}

// names are texts that Clean refuses, with its errors.
func names() map[string]api.Errno {
	return map[string]api.Errno{
		"": api.ErrPath, "/": api.ErrPath, "/a": api.ErrPath, ".": api.ErrPath, "./": api.ErrPath, "..": api.ErrPath, "../a": api.ErrPath, "a/../b": api.ErrPath, "a/..": api.ErrPath,
		"\xff": api.ErrText, "/\xff": api.ErrText, "a\xc0\x80": api.ErrText, "\xed\xa0\x80": api.ErrText,
		strings.Repeat("p", 100) + "/" + strings.Repeat("q", 100): api.ErrPath,
	}
}

// P8.2: a name that is not safe, from wherever it comes.
func TestFaultName(t *testing.T) {
	for name, e := range names() {
		for _, kind := range kinds {
			h := api.Head{Name: "a", Link: "b", Kind: kind}
			l := extension('L', name)
			faults(t, archive(l, header(h)), e, len(l))
			h.Name = name
			faults(t, archive(file("a"), header(h)), e, 512)
			if e == api.ErrPath && name != "" {
				h.Name = "a"
				faults(t, archive(extension('x', records("path", name)), header(h)), e, 1024)
				faults(t, archive(extension('g', records("path", name)), header(h)), e, 1024)
			}
		}
	}
}

// P8.2: a link that may not be, from wherever it comes.
func TestFaultLink(t *testing.T) {
	for name, e := range names() {
		h := api.Head{Name: "a", Kind: api.Hard}
		k := extension('K', name)
		faults(t, archive(k, header(h)), e, len(k))
		if len(name) <= 100 {
			h.Link = name
			faults(t, archive(file("a"), header(h)), e, 512)
		}
		if e == api.ErrPath && name != "" {
			h.Link = "a"
			faults(t, archive(extension('x', records("linkpath", name)), header(h)), e, 1024)
			faults(t, archive(extension('g', records("linkpath", name)), header(h)), e, 1024)
		}
	}
	long := strings.Repeat("t", api.MaxLink)
	h := api.Head{Name: "a", Kind: api.Sym}
	faults(t, archive(header(h)), api.ErrPath, 0)
	reads(t, list(extension('K', long), header(h)), api.Member{Path: "a", Target: long, Kind: api.Sym})
	faults(t, archive(extension('K', long+"t"), header(h)), api.ErrPath, 1024)
	faults(t, archive(extension('x', records("linkpath", long+"t")), header(h)), api.ErrPath, 1024)
	h.Link = "\xff"
	faults(t, archive(header(h)), api.ErrText, 0)
	h.Link = "\xed\xa0\x80"
	faults(t, archive(file("z"), header(h)), api.ErrText, 512)
}

// P8.2: meta data at their ends, and beyond, in headers and in records.
func TestFaultMeta(t *testing.T) {
	for _, x := range []struct {
		most    int
		key     string
		set     func(m *api.Meta, n int)
		largest string
	}{
		{4095, "", func(m *api.Meta, n int) { m.Mode = n }, ""},
		{1<<31 - 1, "uid", func(m *api.Meta, n int) { m.UID = n }, "2147483647"},
		{1<<31 - 1, "gid", func(m *api.Meta, n int) { m.GID = n }, "2147483647"},
		{1 << 40, "mtime", func(m *api.Meta, n int) { m.Time = n }, "1099511627776"},
	} {
		for _, kind := range kinds {
			h := api.Head{Name: "a", Link: "b", Kind: kind}
			want := api.Member{Path: "a", Kind: kind}
			if kind == api.Hard || kind == api.Sym {
				want.Target = "b"
			}
			x.set(&want.Meta, x.most)
			if x.key != "" {
				reads(t, list(extension('x', records(x.key, x.largest)), header(h)), want)
				more := x.largest[:len(x.largest)-1] + string(x.largest[len(x.largest)-1]+1)
				faults(t, archive(extension('x', records(x.key, more)), header(h)), api.ErrNumber, 1024)
				faults(t, archive(extension('g', records(x.key, "999999999999999999")), header(h)), api.ErrNumber, 1024)
			}
			x.set(&h.Meta, x.most)
			reads(t, list(header(h)), want)
			x.set(&h.Meta, x.most+1)
			faults(t, archive(file("z"), header(h)), api.ErrNumber, 512)
			x.set(&h.Meta, 1<<50)
			faults(t, archive(header(h)), api.ErrNumber, 0)
		}
	}
}

// P8.2: what is no file has no size, and a file a body of at most so many bytes that is there.
func TestFaultSize(t *testing.T) {
	for _, kind := range []byte{api.Hard, api.Sym, api.Dir} {
		for _, n := range []int{1, 512, api.MaxBody, api.MaxBody + 1, num.Max} {
			faults(t, archive(file("a"), header(api.Head{Name: "a", Link: "b", Kind: kind, Size: n}), body("x")), api.ErrNumber, 512)
		}
		faults(t, archive(extension('x', records("size", "1")), header(api.Head{Name: "a", Link: "b", Kind: kind}), body("x")), api.ErrNumber, 1024)
	}
	for _, n := range []int{api.MaxBody + 1, 1 << 40, num.Max} {
		h := header(api.Head{Name: "a", Kind: api.File, Size: n})
		faults(t, archive(file("a"), h), api.ErrLarge, 512)
		faults(t, archive(h, make([]byte, api.MaxBody+512)), api.ErrLarge, 0)
	}
	faults(t, archive(extension('x', records("size", "1048577")), file("a"), make([]byte, api.MaxBody+512)), api.ErrLarge, 1024)
	faults(t, archive(extension('x', records("size", "999999999999999999")), file("a")), api.ErrLarge, 1024)
	faults(t, open(header(api.Head{Name: "a", Kind: api.File, Size: api.MaxBody}), make([]byte, api.MaxBody-1)), api.ErrShort, 0)
	faults(t, open(extension('x', records("size", "513")), file("a"), make([]byte, 1023)), api.ErrShort, 1024)
	faults(t, archive(header(api.Head{Name: "a", Kind: api.File, Size: 1025})), api.ErrShort, 0)
}

// P8.2: as many members as may be, and one more; extensions are none.
func TestFaultMany(t *testing.T) {
	full := bytes.Repeat(file("a"), api.MaxItems)
	want := make([]api.Member, api.MaxItems)
	for i := range want {
		want[i] = isFile("a")
	}
	some := [][]int{nil, {700}}
	g, x := extension('g', records("uid", "5")), extension('x', "")
	answers(t, archive(full), want, api.Fault{}, some...)
	answers(t, archive(full, g), want, api.Fault{}, some...)
	answers(t, archive(x, full), want, api.Fault{}, some...)
	answers(t, archive(full, x), nil, api.Fault{E: api.ErrRecord, At: len(full) + len(x)}, some...)
	answers(t, archive(full, x, x), nil, api.Fault{E: api.ErrRecord, At: len(full) + len(x)}, some...)
	answers(t, open(full), nil, api.Fault{E: api.ErrShort, At: len(full)}, some...)
	for _, kind := range []byte("01253") {
		h := header(api.Head{Name: "/", Kind: kind, Size: 1 << 30, Meta: api.Meta{Mode: 4096}})
		answers(t, archive(full, h), nil, api.Fault{E: api.ErrLarge, At: len(full)}, some...)
		answers(t, archive(full, extension('x', records("uid", "x")), h), nil, api.Fault{E: api.ErrLarge, At: len(full) + 1024}, some...)
	}
	answers(t, archive(full, changed(api.Head{Name: "b", Kind: api.File}, 124, "9")), nil, api.Fault{E: api.ErrNumber, At: len(full)}, some...)
	answers(t, archive(full[512:], file("/")), nil, api.Fault{E: api.ErrPath, At: len(full) - 512}, some...)
}

// wrongs are what may be wrong with a member, by the numbers 1, 2, 4 .., in the order in which it is told.
const (
	wrongKind = 1 << iota
	wrongRecord
	wrongName
	wrongMeta
	wrongLink
	wrongSize // of what is no file
	wrongLarge
	wrongShort
	wrongs
)

// spoilt is an archive, behind one file, of a member of a kind with what is wrong; and the fault that it has.
func spoilt(kind byte, wrong int) ([]byte, api.Fault) {
	h, own, tail := api.Head{Name: "a", Link: "b", Kind: kind}, "", make([]byte, 1024)
	first := api.OK
	spoil := func(which int, e api.Errno, change func()) {
		if wrong&which != 0 {
			change()
			if first == api.OK {
				first = e
			}
		}
	}
	spoil(wrongKind, api.ErrType, func() { h.Kind = '7' })
	spoil(wrongRecord, api.ErrNumber, func() { own = records("uid", "x") })
	spoil(wrongName, api.ErrPath, func() { h.Name = "/" })
	spoil(wrongMeta, api.ErrNumber, func() { h.Meta.GID = api.MaxID })
	spoil(wrongLink, api.ErrText, func() { h.Link = "\xff" })
	spoil(wrongSize, api.ErrNumber, func() { h.Size = 600 })
	spoil(wrongLarge, api.ErrLarge, func() { h.Size = api.MaxBody + 1 })
	spoil(wrongShort, api.ErrShort, func() { h.Size, tail = max(h.Size, 1), nil })
	if wrong&wrongSize != 0 {
		tail = make([]byte, api.MaxBody+4096)
	}
	return open(file("z"), extension('x', own), header(h), tail), api.Fault{E: first, At: 512 + 512 + 512*((len(own)+511)/512)}
}

// P8.2: of several faults of a member the first one is told.
func TestFaultOrder(t *testing.T) {
	for wrong := 1; wrong < wrongs; wrong++ {
		for _, kind := range kinds {
			if kind == api.File && wrong&(wrongLink|wrongSize) != 0 || kind != api.File && wrong&(wrongLarge|wrongShort) != 0 || kind == api.Dir && wrong&wrongLink != 0 {
				continue
			}
			b, fault := spoilt(kind, wrong)
			answers(t, b, nil, fault, nil, []int{4096, 1})
		}
	}
	for _, kind := range links {
		faults(t, archive(header(api.Head{Name: "\xff", Link: "", Kind: kind})), api.ErrText, 0)
		faults(t, archive(header(api.Head{Name: "", Link: "\xff", Kind: kind})), api.ErrPath, 0)
	}
}

// P8.2: of several faults of an extension the first one is told.
func TestFaultExtensionOrder(t *testing.T) {
	for _, kind := range []byte("xLK") {
		one := extension(kind, "")
		large := header(api.Head{Name: "@", Kind: kind, Size: api.MaxBody + 1})
		short := header(api.Head{Name: "@", Kind: kind, Size: 1})
		faults(t, open(one, large), api.ErrRecord, 512)
		faults(t, open(one, short), api.ErrRecord, 512)
		faults(t, archive(one, extension(kind, "6 k=\xff\n")), api.ErrRecord, 512)
		faults(t, open(large), api.ErrLarge, 0)
		faults(t, open(short, []byte("z")), api.ErrShort, 0)
	}
	wrong := bytes.Repeat([]byte("z"), 2*api.MaxBody)
	faults(t, open(header(api.Head{Name: "@", Kind: 'g', Size: api.MaxBody + 1}), wrong), api.ErrLarge, 0)
	faults(t, open(header(api.Head{Name: "@", Kind: 'x', Size: 513}), wrong[:1023]), api.ErrShort, 0)
}

// P8.2: of several headers with a fault the first one is told.
func TestFaultFirst(t *testing.T) {
	parts := list(file("/"), header(api.Head{Name: "a", Kind: '7'}), header(api.Head{Name: "a", Kind: api.Dir, Size: 1}), []byte(strings.Repeat("z", 512)), extension('x', "z"))
	errnos := []api.Errno{api.ErrPath, api.ErrType, api.ErrNumber, api.ErrSum, api.ErrRecord}
	for i := range parts {
		for j := range parts {
			faults(t, archive(file("a"), parts[i], parts[j]), errnos[i], 512)
			faults(t, open(file("a"), extension('g', ""), parts[i], file("b"), parts[j]), errnos[i], 1024)
		}
	}
}
