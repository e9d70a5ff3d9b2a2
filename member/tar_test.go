package member_test

import (
	"archive/tar"
	"bytes"
	"strings"
	"testing"
	"time"

	"bindle/api"
)

// written is an archive as the library writes it.
func written(t *testing.T, form tar.Format, list []api.Member) []byte {
	t.Helper()
	var b bytes.Buffer
	w := tar.NewWriter(&b)
	for _, m := range list {
		h := &tar.Header{
			Format: form, Typeflag: m.Kind, Name: m.Path, Linkname: m.Target, Size: int64(len(m.Body)),
			Mode: int64(m.Meta.Mode), Uid: m.Meta.UID, Gid: m.Meta.GID, ModTime: time.Unix(int64(m.Meta.Time), 0),
		}
		if err := w.WriteHeader(h); err != nil {
			t.Fatal(err)
		}
		if _, err := w.Write(m.Body); err != nil {
			t.Fatal(err)
		}
	}
	if err := w.Close(); err != nil {
		t.Fatal(err)
	}
	return b.Bytes()
}

// P8.2: what the library writes, of all three forms.
func TestReadLibrary(t *testing.T) {
	long := strings.Repeat("long/", 30)
	small := api.Meta{Mode: 0o644, UID: 1000, GID: 50, Time: 1234567890}
	large := api.Meta{Mode: 4095, UID: api.MaxID - 1, GID: api.MaxID - 1, Time: api.MaxTime}
	members := []api.Member{
		{Path: "a", Kind: api.File, Meta: small, Body: []byte("abc")}, {Path: "d", Kind: api.Dir, Meta: small},
		{Path: "h", Target: "a", Kind: api.Hard, Meta: small}, {Path: "s", Target: "../x", Kind: api.Sym, Meta: small},
		{Path: long + "f", Kind: api.File, Meta: small, Body: bytes.Repeat([]byte("b"), 1000)},
	}
	answers(t, written(t, tar.FormatUSTAR, members), members, api.Fault{}, chunkings...)
	members = append(members,
		api.Member{Path: long + "h", Target: long + "f", Kind: api.Hard, Meta: large},
		api.Member{Path: strings.Repeat("n", 200), Target: strings.Repeat("t", 200), Kind: api.Sym, Meta: large},
		api.Member{Path: "\u00e9\u4e2d\U0001f600", Kind: api.Dir, Meta: large},
		api.Member{Path: "z", Kind: api.File, Meta: small},
	)
	answers(t, written(t, tar.FormatGNU, members), members, api.Fault{}, chunkings...)
	answers(t, written(t, tar.FormatPAX, members), members, api.Fault{}, chunkings...)
}
