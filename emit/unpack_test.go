package emit_test

import (
	"archive/tar"
	"bytes"
	"fmt"
	"math/rand"
	"slices"
	"strings"
	"testing"
	"time"

	"bindle/api"
	"bindle/emit"
	"bindle/head"
	"bindle/member"
	"bindle/tree"
)

// allChunks are ways to say how many bytes are read at a time.
func allChunks() [][]int {
	return [][]int{nil, {}, {1}, {511, 2}, {0}, {-5, 0, 700}, {1 << 62}, {-1 << 63}, {3, 1000, 512}}
}

// unpacks expects Unpack of an archive of these members to answer a tree, whatever chunks say.
func unpacks(t *testing.T, list []api.Member, want ...api.Node) {
	t.Helper()
	b := archive(t, list...)
	for _, chunks := range allChunks() {
		got, f := emit.Unpack(b, chunks)
		if f != (api.Fault{}) || !slices.EqualFunc(got, want, sameNode) || !tree.Good(got) {
			t.Errorf("Unpack of %s, %v: %v, %s, want %s", told(list), chunks, f, toldTree(got), toldTree(want))
		}
	}
}

// faults expects Unpack to answer a fault, and nothing beside it, whatever chunks say.
func faults(t *testing.T, b []byte, e api.Errno, at int) {
	t.Helper()
	for _, chunks := range allChunks() {
		if got, f := emit.Unpack(b, chunks); f != (api.Fault{E: e, At: at}) || len(got) != 0 {
			t.Errorf("Unpack of %d bytes, %v: %v, %s, want %d at %d", len(b), chunks, f, toldTree(got), e, at)
		}
	}
}

// P12.2: nothing, and one member of each kind.
func TestUnpackFew(t *testing.T) {
	unpacks(t, nil)
	unpacks(t, []api.Member{file("a", "x")}, isFile("a", "a", "x"))
	unpacks(t, []api.Member{file("a/b", "")}, isFile("a/b", "a/b", ""))
	unpacks(t, []api.Member{sym("a", "../b")}, isSym("a", "../b"))
	unpacks(t, []api.Member{dir("a")}, isDir("a"))
	m, x := file("a", "x"), isFile("a", "a", "x")
	for _, x.Meta = range []api.Meta{meta, most} {
		m.Meta = x.Meta
		unpacks(t, []api.Member{m}, x)
	}
}

// P12.2: members that are laid over one another, and links by any name.
func TestUnpackFolds(t *testing.T) {
	unpacks(t, []api.Member{file("b", "x"), hard("a", "b")}, isFile("a", "a", "x"), isFile("b", "a", "x"))
	unpacks(t, []api.Member{file("b", "x"), hard("a", "b"), file("b", "y")}, isFile("a", "a", "x"), isFile("b", "b", "y"))
	unpacks(t, []api.Member{file("b", "x"), hard("a", "b"), hard("c", "a"), dir("a")}, isDir("a"), isFile("b", "b", "x"), isFile("c", "b", "x"))
	unpacks(t, []api.Member{dir("z"), sym("b", "c"), file("a/b", "1"), file("a", "2")}, isFile("a", "a", "2"), isFile("a/b", "a/b", "1"), isSym("b", "c"), isDir("z"))
	unpacks(t, []api.Member{file("b", "x"), hard("b", "b")}, isFile("b", "b", "x"))
	link := hard("a", "b")
	link.Meta = meta
	unpacks(t, []api.Member{file("b", "x"), link}, isFile("a", "a", "x"), isFile("b", "a", "x"))
}

// P12.2: the chapter's Read has a fault: it is told as it is, at a byte's place.
func TestUnpackRead(t *testing.T) {
	faults(t, nil, api.ErrShort, 0)
	faults(t, []byte{}, api.ErrShort, 0)
	faults(t, make([]byte, 1023), api.ErrShort, 0)
	b := archive(t, file("a", "x"), hard("b", "a"), dir("c"))
	for n := 0; n < len(b); n += 64 {
		at := min(n/512*512, 4*512)
		// The body of a is there, or a is short.
		if at == 512 {
			at = 0
		}
		faults(t, b[:n], api.ErrShort, at)
	}
	faults(t, append(bytes.Clone(b), 1), api.ErrText, 4*512)
	sum := bytes.Clone(b)
	sum[1024]++
	faults(t, sum, api.ErrSum, 1024)
	for _, bad := range []struct {
		h api.Head
		e api.Errno
	}{
		{api.Head{Name: "../a", Kind: api.File}, api.ErrPath}, {api.Head{Name: "", Kind: api.Dir}, api.ErrPath}, {api.Head{Name: "a", Kind: '3'}, api.ErrType}, {api.Head{Name: "a", Kind: 'x', Size: api.MaxBody + 1}, api.ErrLarge},
		{api.Head{Name: "a", Kind: api.Dir, Size: 1}, api.ErrNumber}, {api.Head{Name: "a", Kind: api.File, Meta: api.Meta{Mode: api.MaxMode + 1}}, api.ErrNumber},
		{api.Head{Name: "a", Link: "..", Kind: api.Hard}, api.ErrPath},
	} {
		block, ok := head.Put(bad.h)
		if !ok {
			t.Fatal(bad)
		}
		faults(t, slices.Concat(b[:512*4], block, make([]byte, 1024)), bad.e, 4*512)
	}
}

// P12.2: a link to what is no file then: At is the number of the member, whatever stands ahead of it.
func TestUnpackLinks(t *testing.T) {
	faults(t, archive(t, hard("a", "b")), api.ErrLink, 0)
	faults(t, archive(t, hard("a", "a")), api.ErrLink, 0)
	faults(t, archive(t, hard("a", "b"), file("b", "x")), api.ErrLink, 0)
	large := file("b", strings.Repeat("x", 5000))
	large.Meta = most
	long := dir(strings.Repeat("p", 200))
	faults(t, archive(t, large, long, hard("a", "b"), hard("c", "d"), hard("e", "f")), api.ErrLink, 3)
	faults(t, archive(t, large, dir("b"), hard("a", "b")), api.ErrLink, 2)
	faults(t, archive(t, large, hard("a", "b"), sym("a", "b"), hard("c", "a")), api.ErrLink, 3)
	var list []api.Member
	for i := range api.MaxItems - 1 {
		list = append(list, file(fmt.Sprint(i), ""))
	}
	b := archive(t, append(list, hard("a", "z"))...)
	if got, f := emit.Unpack(b, nil); f != (api.Fault{E: api.ErrLink, At: api.MaxItems - 1}) || len(got) != 0 {
		t.Errorf("%v, %s", f, toldTree(got))
	}
}

// P12.2: Read's fault is told ahead of a link's, wherever the two stand.
func TestUnpackOrder(t *testing.T) {
	b := archive(t, hard("a", "b"), hard("c", "d"))
	faults(t, b[:1024], api.ErrShort, 1024)
	faults(t, append(bytes.Clone(b), 1), api.ErrText, 1024)
	faults(t, b[:700], api.ErrShort, 512)
	faults(t, b, api.ErrLink, 0)
}

// P12.2: as many members as there may be, of one path, of one class, of many; one more is too many, whatever tree they are.
func TestUnpackMany(t *testing.T) {
	one := slices.Repeat([]api.Member{file("a", "x")}, api.MaxItems)
	class := []api.Member{file("a", "x")}
	for i := range api.MaxItems - 1 {
		class = append(class, hard(fmt.Sprint(i), "a"))
	}
	for _, list := range [][]api.Member{one, class} {
		want, _ := modelFold(list)
		b := archive(t, list...)
		got, f := emit.Unpack(b, []int{5000})
		if f != (api.Fault{}) || !slices.EqualFunc(got, want, sameNode) {
			t.Errorf("%v, %s", f, toldTree(got))
		}
		more := slices.Concat(b[:len(b)-1024], archive(t, list[0]))
		if got, f := emit.Unpack(more, nil); f != (api.Fault{E: api.ErrLarge, At: len(b) - 1024}) || len(got) != 0 {
			t.Errorf("%v, %s", f, toldTree(got))
		}
	}
}

// P12.2: lists of members at few paths, against a model; Unpack of Pack is the tree.
func TestUnpackDrawn(t *testing.T) {
	pick := rand.New(rand.NewSource(3))
	links := 0
	for n := range 3000 {
		list := drawn(pick, n%14)
		b := archive(t, list...)
		want, fault := modelFold(list)
		got, f := emit.Unpack(b, []int{pick.Intn(1200)})
		if f != fault || !slices.EqualFunc(got, want, sameNode) {
			t.Fatalf("Unpack of %s: %v, %s, want %v, %s", told(list), f, toldTree(got), fault, toldTree(want))
		}
		if f.E != api.OK {
			links++
			continue
		}
		packsAs(t, got, packed(want))
	}
	if links < 300 || links > 2700 {
		t.Errorf("%d links to nothing", links)
	}
}

// P12.2: bytes of any sort: where Read has a fault it is Unpack's, else there is a tree, or a link to nothing.
func TestUnpackBytes(t *testing.T) {
	pick := rand.New(rand.NewSource(4))
	whole, _ := emit.Pack(mixed())
	for range 3000 {
		b := bytes.Clone(whole[:pick.Intn(len(whole)+1)])
		for range pick.Intn(3) {
			if len(b) > 0 {
				b[pick.Intn(len(b))] ^= byte(1 << pick.Intn(8))
			}
		}
		list, fault := member.Read(b, nil)
		var want []api.Node
		if fault.E == api.OK {
			want, fault = modelFold(list)
		}
		if got, f := emit.Unpack(b, []int{pick.Intn(1200)}); f != fault || !slices.EqualFunc(got, want, sameNode) {
			t.Fatalf("%v, %s, want %v, %s", f, toldTree(got), fault, toldTree(want))
		}
	}
}

// P12.2: an archive of another program, with GNU's long names, and Pack of its tree, which has records.
func TestUnpackTar(t *testing.T) {
	long := strings.Repeat("n", 150)
	for _, format := range []tar.Format{tar.FormatGNU, tar.FormatPAX} {
		var out bytes.Buffer
		w := tar.NewWriter(&out)
		for _, h := range []tar.Header{
			{Name: long, Typeflag: tar.TypeReg, Size: 3}, {Name: "./d/", Typeflag: tar.TypeDir}, {Name: "h", Linkname: long, Typeflag: tar.TypeLink}, {Name: "s", Linkname: long + "/x", Typeflag: tar.TypeSymlink},
		} {
			h.Format, h.Mode, h.ModTime = format, 0o755, time.Unix(7, 0)
			if err := w.WriteHeader(&h); err != nil {
				t.Fatal(err)
			}
			if h.Size > 0 {
				w.Write([]byte("abc"))
			}
		}
		if err := w.Close(); err != nil {
			t.Fatal(err)
		}
		want := []api.Node{isDir("d"), isFile("h", "h", "abc"), isFile(long, "h", "abc"), isSym("s", long+"/x")}
		for i := range want {
			want[i].Meta = api.Meta{Mode: 0o755, Time: 7}
		}
		got, f := emit.Unpack(out.Bytes(), nil)
		if f != (api.Fault{}) || !slices.EqualFunc(got, want, sameNode) {
			t.Fatalf("%v: %v, %s", format, f, toldTree(got))
		}
		packsAs(t, got, packed(want))
	}
}

// P12.2 with R4: what is handed in is not changed, spare room included, nor kept; no two bodies share memory.
func TestUnpackMemory(t *testing.T) {
	b, _ := emit.Pack(mixed())
	room := append(bytes.Clone(b), "room"...)
	chunks := []int{100, 7, 5}
	one, _ := emit.Unpack(room[:len(b)], chunks[:2])
	two, _ := emit.Unpack(room[:len(b)], chunks[:2])
	for i := range one {
		body := one[i].Body[:cap(one[i].Body)]
		clear(body)
		for j := range one {
			if j > i && string(one[j].Body) != string(mixed()[j].Body) {
				t.Errorf("%q shares with %q", one[i].Path, one[j].Path)
			}
		}
	}
	clear(one[:cap(one)])
	if string(room) != string(b)+"room" || !slices.Equal(chunks, []int{100, 7, 5}) {
		t.Error("changed")
	}
	clear(room)
	clear(chunks)
	if !slices.EqualFunc(two, mixed(), sameNode) {
		t.Errorf("kept, or shared: %s", toldTree(two))
	}
}

// P12.1, P12.2 with R5: the same again, whatever was asked between.
func TestAgain(t *testing.T) {
	for range 20 {
		packsAs(t, mixed(), packed(mixed()))
		refuses(t, append(mixed(), mixed()...))
		faults(t, archive(t, hard("a", "b")), api.ErrLink, 0)
		packsAs(t, strange(), packed(strange()))
		faults(t, nil, api.ErrShort, 0)
	}
}
