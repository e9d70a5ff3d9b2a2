package write_test

import (
	"archive/tar"
	"bytes"
	"io"
	"slices"
	"strconv"
	"strings"
	"testing"

	"bindle/api"
	"bindle/member"
	"bindle/write"
)

// archives expects Archive to answer all members' bytes and the end, Size how many the first ones are, and that Read of them are the members.
func archives(t *testing.T, list []api.Member) {
	t.Helper()
	var want []byte
	for _, m := range list {
		want = append(want, model(m)...)
	}
	if n := write.Size(list...); n != len(want) {
		t.Errorf("Size of %d members: %d, want %d", len(list), n, len(want))
	}
	want = append(want, make([]byte, 1024)...)
	b, e := write.Archive(list)
	if e != api.OK || !bytes.Equal(b, want) {
		t.Errorf("Archive of %d members: %d, %s", len(list), e, toldBytes(b, want))
	}
	for _, chunks := range [][]int{nil, {7, 1000}} {
		read, f := member.Read(b, chunks)
		if f != (api.Fault{}) || !slices.EqualFunc(read, list, member.Same) {
			t.Errorf("Archive of %d members is read as %d, %v", len(list), len(read), f)
		}
	}
}

// mixed are members of all kinds, with and without records.
func mixed() []api.Member {
	long := strings.Repeat("n", 150)
	small, large := api.Meta{Mode: 0o644, UID: 1000, GID: 50, Time: 1234567890}, api.Meta{Mode: 4095, UID: 1<<31 - 1, GID: 1<<31 - 1, Time: 1 << 40}
	return []api.Member{
		{Path: "a", Kind: api.File, Meta: small, Body: []byte("abc")}, {Path: long, Kind: api.File, Meta: large, Body: slices.Repeat([]byte("z"), 1025)},
		{Path: "d", Kind: api.Dir, Meta: small}, {Path: "d/\u00e9", Kind: api.Dir, Meta: small}, {Path: "h", Target: long, Kind: api.Hard, Meta: large},
		{Path: "h", Target: "h", Kind: api.Hard}, {Path: "s", Target: "../\u4e2d", Kind: api.Sym, Meta: small}, {Path: "a", Target: strings.Repeat("t", 100), Kind: api.Sym},
		{Path: strings.Repeat("p", 90) + "/" + strings.Repeat("n", 90), Kind: api.File, Meta: small}, {Path: "z", Kind: api.Dir},
	}
}

// P9.2: the chapter's example: an archive of nothing.
func TestArchiveEmpty(t *testing.T) {
	for _, list := range [][]api.Member{nil, {}, make([]api.Member, 0, 5)} {
		if b, e := write.Archive(list); e != api.OK || !bytes.Equal(b, make([]byte, 1024)) {
			t.Errorf("%d, %q", e, b)
		}
	}
	archives(t, nil)
}

// P9.2: lists of members, in their order; one path may be there twice, and a link go nowhere.
func TestArchive(t *testing.T) {
	list := mixed()
	for i := range list {
		archives(t, list[i:i+1])
		archives(t, list[i:])
		archives(t, list[:i])
		for j := range list {
			archives(t, []api.Member{list[i], list[j]})
		}
	}
	slices.Reverse(list)
	archives(t, list)
	archives(t, slices.Repeat(list, 20))
}

// P9.2: one that is not good, wherever it stands.
func TestArchiveRefused(t *testing.T) {
	for _, m := range wrong() {
		for at := range 3 {
			list := slices.Insert(mixed()[:2], at, m)
			if b, e := write.Archive(list); e != api.ErrArg || len(b) != 0 {
				t.Errorf("Archive with %s at %d: %d, %d bytes", told(m), at, e, len(b))
			}
		}
	}
}

// files are so many files.
func files(n int) []api.Member {
	list := make([]api.Member, n)
	for i := range list {
		list[i] = api.Member{Path: "f" + strconv.Itoa(i), Kind: api.File}
	}
	return list
}

// P9.2: as many members as there may be, and more; one that is not good is told first.
func TestArchiveLarge(t *testing.T) {
	archives(t, files(api.MaxItems))
	for _, n := range []int{api.MaxItems + 1, 2 * api.MaxItems} {
		list := files(n)
		if b, e := write.Archive(list); e != api.ErrLarge || len(b) != 0 {
			t.Errorf("Archive of %d members: %d, %d bytes", n, e, len(b))
		}
		if size := write.Size(list...); size != n*512 {
			t.Errorf("Size of %d members: %d", n, size)
		}
		for _, at := range []int{0, api.MaxItems, n - 1} {
			list = files(n)
			list[at].Path = ""
			if b, e := write.Archive(list); e != api.ErrArg || len(b) != 0 {
				t.Errorf("Archive of %d members, number %d not good: %d, %d bytes", n, at, e, len(b))
			}
		}
	}
}

// P9.2: Size of none, of several, and of such as are not good.
func TestSize(t *testing.T) {
	bad := api.Member{Path: "/", Kind: api.File, Body: []byte("abc")}
	file := api.Member{Path: "a", Kind: api.File, Body: slices.Repeat([]byte("z"), 513)}
	long := api.Member{Path: "\u00e9", Kind: api.Dir}
	for _, x := range []struct {
		list []api.Member
		want int
	}{
		{nil, 0}, {[]api.Member{}, 0}, {[]api.Member{file}, 1536}, {[]api.Member{long}, 1536}, {[]api.Member{{Path: "d", Kind: api.Dir}}, 512},
		{[]api.Member{file, long, file}, 4608}, {[]api.Member{bad}, 0}, {[]api.Member{bad, bad}, 0}, {[]api.Member{bad, file}, 1536}, {[]api.Member{file, bad, {}, long}, 3072},
		{[]api.Member{{Path: "a", Kind: api.File, Body: make([]byte, api.MaxBody)}, file}, 512 + 1<<20 + 1536},
	} {
		if n := write.Size(x.list...); n != x.want {
			t.Errorf("Size of %d members: %d, want %d", len(x.list), n, x.want)
		}
	}
}

// P9.2 with R4: what is handed in is not changed, spare room included, and not kept; each answer is new memory.
func TestArchiveMemory(t *testing.T) {
	list := mixed()
	room := append(slices.Clone(list[0].Body), "room"...)
	list[0].Body = room[:3]
	head := list[:4]
	one, _ := write.Archive(head)
	two, _ := write.Archive(head)
	want := bytes.Clone(one)
	write.Size(head...)
	if !slices.EqualFunc(list, mixed(), member.Same) || string(room) != "abcroom" {
		t.Error("changed")
	}
	_ = append(one, 'x')
	clear(one[:cap(one)])
	if !slices.EqualFunc(list, mixed(), member.Same) || string(room) != "abcroom" {
		t.Error("changed by what was answered")
	}
	clear(room)
	clear(list)
	if !bytes.Equal(two, want) {
		t.Error("an answer is changed by members, or by another answer")
	}
}

// P9.2: the library reads what is written.
func TestArchiveLibrary(t *testing.T) {
	list := mixed()
	b, _ := write.Archive(list)
	r := tar.NewReader(bytes.NewReader(b))
	for _, m := range list {
		h, err := r.Next()
		if err != nil {
			t.Fatal(err)
		}
		meta := api.Meta{Mode: int(h.Mode), UID: h.Uid, GID: h.Gid, Time: int(h.ModTime.Unix())}
		body, err := io.ReadAll(r)
		if err != nil || h.Name != m.Path || h.Linkname != m.Target || h.Typeflag != m.Kind || meta != m.Meta || !bytes.Equal(body, m.Body) {
			t.Errorf("%s: %v, %+v", told(m), err, h)
		}
	}
	if _, err := r.Next(); err != io.EOF {
		t.Error(err)
	}
}
