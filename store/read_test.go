package store_test

import (
	"bytes"
	"math"
	"math/rand"
	"strings"
	"testing"

	"bindle/api"
	"bindle/store"
)

// P14.3: the bytes from at on, by cases.
func TestRead(t *testing.T) {
	s := made(t, 100, "abcde", "", "\x00\xff")
	for _, c := range []struct {
		run, at, n int
		want       string
		e          api.Errno
	}{
		{0, 0, 5, "abcde", api.OK},
		{0, 0, 6, "abcde", api.OK},
		{0, 0, 4, "abcd", api.OK},
		{0, 0, 0, "", api.OK},
		{0, 1, 3, "bcd", api.OK},
		{0, 3, 9, "de", api.OK},
		{0, 4, 1, "e", api.OK},
		{0, 5, 0, "", api.OK},
		{0, 5, 1, "", api.OK},
		{0, 5, math.MaxInt, "", api.OK},
		{0, 0, math.MaxInt, "abcde", api.OK},
		{0, 1, math.MaxInt, "bcde", api.OK},
		{0, 6, 0, "", api.ErrArg},
		{0, 6, 1, "", api.ErrArg},
		{0, math.MaxInt, math.MaxInt, "", api.ErrArg},
		{0, math.MaxInt, 0, "", api.ErrArg},
		{0, -1, 1, "", api.ErrArg},
		{0, -1, 0, "", api.ErrArg},
		{0, math.MinInt, math.MaxInt, "", api.ErrArg},
		{0, 0, -1, "", api.ErrArg},
		{0, 5, -1, "", api.ErrArg},
		{0, 3, -3, "", api.ErrArg},
		{0, 0, math.MinInt, "", api.ErrArg},
		{0, -1, -1, "", api.ErrArg},
		{0, 6, -1, "", api.ErrArg},
		{1, 0, 0, "", api.OK},
		{1, 0, 7, "", api.OK},
		{1, 1, 0, "", api.ErrArg},
		{1, -1, 0, "", api.ErrArg},
		{1, 0, -1, "", api.ErrArg},
		{2, 0, 2, "\x00\xff", api.OK},
		{2, 1, 1, "\xff", api.OK},
	} {
		for range 2 {
			if b, e := s.Read(c.run, c.at, c.n); string(b) != c.want || e != c.e {
				t.Errorf("Read(%d, %d, %d): %q, %d, not %q, %d", c.run, c.at, c.n, b, e, c.want, c.e)
			}
		}
	}
	counts(t, s, 7, 7, 3)
}

// P14.3: of a run that is not there it is ErrNone, whatever else is wrong.
func TestReadNone(t *testing.T) {
	s := made(t, 100, "abc", "de")
	s.Drop(0)
	for _, run := range []int{0, 2, -1, math.MaxInt, math.MinInt} {
		for _, at := range []int{0, 1, -1, 9, math.MaxInt, math.MinInt} {
			for _, n := range []int{0, 1, -1, 9, math.MaxInt, math.MinInt} {
				if b, e := s.Read(run, at, n); len(b) != 0 || e != api.ErrNone {
					t.Errorf("Read(%d, %d, %d): %q, %d", run, at, n, b, e)
				}
			}
		}
	}
	has(t, s, 1, "de")
}

// P14.3: all places and numbers, at runs of all short lengths, which grow by one write or by many.
func TestReadAll(t *testing.T) {
	for size := range 20 {
		one, many := newPair(t, 100), newPair(t, 100)
		one.create()
		many.create()
		one.append(0, strings.Repeat("abcdefghij", 2)[:size])
		for i := range size {
			many.append(0, string(byte('A'+i)))
		}
		for at := -3; at < size+4; at++ {
			for n := -3; n < size+4; n++ {
				one.read(0, at, n)
				many.read(0, at, n)
			}
		}
	}
}

// P14.3 with R4: what Read answers shares no memory with the run, or with another answer.
func TestReadMemory(t *testing.T) {
	s := made(t, 1000, "abcdef", "")
	s.Append(0, []byte("g"))
	one, _ := s.Read(0, 0, 7)
	two, _ := s.Read(0, 0, 7)
	mid, _ := s.Read(0, 2, 3)
	none, _ := s.Read(0, 7, 3)
	for _, b := range [][]byte{one, mid, none} {
		whole := b[:cap(b)]
		for i := range whole {
			whole[i] = '!'
		}
		_ = append(b, "????????"...)
	}
	if string(two) != "abcdefg" {
		t.Errorf("shared: %q", two)
	}
	has(t, s, 0, "abcdefg")
	s.Append(0, two)
	has(t, s, 0, "abcdefgabcdefg")
	s.Append(0, []byte("h"))
	s.Drop(0)
	s.Append(1, []byte("xyz"))
	if string(two) != "abcdefg" || !bytes.Equal(mid, []byte("!!!")) {
		t.Errorf("changed by what came later: %q, %q", two, mid)
	}
}

// calls are a few calls, of which all short series are made.
func calls() []func(p *pair) {
	return []func(p *pair){
		func(p *pair) { p.create() },
		func(p *pair) { p.append(0, "ab") },
		func(p *pair) { p.append(1, "c") },
		func(p *pair) { p.append(1, "") },
		func(p *pair) { p.drop(0) },
		func(p *pair) { p.drop(1) },
	}
}

// P14.1, P14.2, P14.3: all short series of calls, at little room and with each write failing once.
func TestShortSeries(t *testing.T) {
	list := calls()
	series := 1
	for range 5 {
		series *= len(list)
	}
	for _, fails := range [][]int{nil, {0}, {1}, {0, 2}} {
		for room := range 5 {
			for number := range series {
				p := newPair(t, room, fails...)
				p.create()
				for n := number; n > 0; n /= len(list) {
					list[n%len(list)](p)
				}
			}
		}
	}
}

// P14.1, P14.2, P14.3: long series of calls that are drawn.
func TestLongSeries(t *testing.T) {
	pick := rand.New(rand.NewSource(141))
	for range 300 {
		var fails []int
		for range pick.Intn(10) {
			fails = append(fails, pick.Intn(60)-5)
		}
		p := newPair(t, pick.Intn(80)-5, fails...)
		for range 60 {
			run := pick.Intn(len(p.want.gone)+2) - 1
			switch pick.Intn(8) {
			case 0:
				p.create()
			case 1:
				p.drop(run)
			case 2, 3:
				p.read(run, pick.Intn(30)-3, pick.Intn(30)-3)
			default:
				p.append(run, strings.Repeat(string(byte('a'+pick.Intn(26))), pick.Intn(12)))
			}
		}
	}
}

// R5: the same calls are answered the same again.
func TestAgain(t *testing.T) {
	told := func() string {
		var b strings.Builder
		s := store.New(40, []int{3, 8})
		for i := range 30 {
			s.Create()
			b.WriteByte(byte('A' + s.Append(i/2, []byte("abcd")[:i%5])))
			b.WriteByte(byte('A' + s.Drop(i/3)))
			x, e := s.Read(i/2, 1, 2)
			b.Write(append(x, byte('A'+e), byte('a'+s.Used()%26), byte('a'+s.Peak()%26), byte('a'+s.Writes()%26)))
		}
		return b.String()
	}
	want := told()
	for range 5 {
		if got := told(); got != want {
			t.Fatalf("%q, then %q", want, got)
		}
	}
}
