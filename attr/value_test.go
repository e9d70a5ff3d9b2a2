package attr_test

import (
	"slices"
	"strconv"
	"strings"
	"testing"

	"bindle/api"
	"bindle/attr"
)

// rec is a record.
func rec(key, value string) api.Record {
	return api.Record{Key: key, Value: value}
}

// with is a state of which Global was called once with each list.
func with(calls ...[]api.Record) *attr.State {
	s := new(attr.State)
	for _, list := range calls {
		s.Global(list...)
	}
	return s
}

// counts expects Value to answer a value.
func counts(t *testing.T, s *attr.State, key, want string, list ...api.Record) {
	t.Helper()
	if got := s.Value(key, list...); got != want {
		t.Errorf("Value(%.100q, %.100q): %.100q, want %.100q", key, list, got, want)
	}
}

// modelValue is what counts of a key once more: all are gone through forward, and each takes the earlier one's place.
func modelValue(key string, global, own []api.Record) string {
	value := ""
	for _, r := range append(slices.Clone(global), own...) {
		if r.Key == key {
			value = r.Value
		}
	}
	return value
}

// lists are all lists of at most so many of these records.
func lists(most int, all ...api.Record) [][]api.Record {
	out := [][]api.Record{nil}
	for from := 0; most > 0; most-- {
		to := len(out)
		for _, list := range out[from:to] {
			for _, r := range all {
				out = append(out, append(slices.Clone(list), r))
			}
		}
		from = to
	}
	return out
}

// P7.1: a new state has no global records; a nil one neither.
func TestValueNothing(t *testing.T) {
	var none *attr.State
	for _, s := range []*attr.State{new(attr.State), {}, none, with(nil), with([]api.Record{})} {
		for _, key := range []string{"", "k", "path", "uid", "\x00", "\xff"} {
			counts(t, s, key, "")
			counts(t, s, key, "", nil...)
			counts(t, s, key, "", []api.Record{}...)
			counts(t, s, key, "", rec("other", "v"))
			counts(t, s, key, "v", rec(key, "v"))
			counts(t, s, key, "", rec(key, ""))
		}
	}
}

// P7.1: of the member's own records the last one that has the key.
func TestValueOwn(t *testing.T) {
	for _, s := range []*attr.State{nil, new(attr.State), with([]api.Record{rec("k", "global"), rec("l", "other")})} {
		counts(t, s, "k", "1", rec("k", "1"))
		counts(t, s, "k", "2", rec("k", "1"), rec("k", "2"))
		counts(t, s, "k", "1", rec("k", "2"), rec("k", "1"))
		counts(t, s, "k", "2", rec("k", "1"), rec("k", "2"), rec("m", "3"))
		counts(t, s, "k", "3", rec("k", "1"), rec("m", "2"), rec("k", "3"), rec("n", "4"))
		counts(t, s, "k", "3", rec("k", "1"), rec("k", ""), rec("k", "3"))
	}
}

// P7.1: if there is no own one, the last global one, whatever own ones of other keys there are.
func TestValueGlobal(t *testing.T) {
	s := with([]api.Record{rec("k", "1"), rec("l", "2"), rec("k", "3")})
	counts(t, s, "k", "3")
	counts(t, s, "l", "2")
	counts(t, s, "m", "")
	counts(t, s, "k", "3", rec("l", "4"), rec("m", "5"))
	counts(t, s, "k", "6", rec("k", "6"))
	// An own one counts for that call alone.
	counts(t, s, "k", "3")
}

// P7.1: what is global later stands behind what is global.
func TestGlobalBehind(t *testing.T) {
	s := with([]api.Record{rec("k", "1"), rec("l", "1")})
	counts(t, s, "k", "1")
	s.Global(rec("k", "2"))
	counts(t, s, "k", "2")
	counts(t, s, "l", "1")
	s.Global()
	s.Global(nil...)
	counts(t, s, "k", "2")
	s.Global(rec("m", "3"), rec("l", "4"), rec("l", "5"))
	counts(t, s, "k", "2")
	counts(t, s, "l", "5")
	counts(t, s, "m", "3")
	s.Global(rec("k", "1"))
	counts(t, s, "k", "1")
}

// P7.1: an empty value is nothing, and hides what is global.
func TestValueEmpty(t *testing.T) {
	s := with([]api.Record{rec("k", "1")})
	counts(t, s, "k", "", rec("k", ""))
	counts(t, s, "k", "", rec("k", "2"), rec("k", ""))
	counts(t, s, "k", "", rec("k", ""), rec("l", "2"))
	counts(t, s, "k", "2", rec("k", ""), rec("k", "2"))
	counts(t, s, "k", "1", rec("l", ""))
	// A global one hides the global ones ahead of it, in one call and in another.
	s.Global(rec("k", ""))
	counts(t, s, "k", "")
	counts(t, s, "k", "3", rec("k", "3"))
	s.Global(rec("k", "4"))
	counts(t, s, "k", "4")
	s.Global(rec("k", "5"), rec("k", ""))
	counts(t, s, "k", "")
	s.Global(rec("k", ""), rec("k", "6"))
	counts(t, s, "k", "6")
}

// P7.1: what is not empty is something, whatever it is.
func TestValueAny(t *testing.T) {
	for _, value := range []string{" ", "\x00", "\n", "=", "0", "\xff", "\u00e9", "..", "/", strings.Repeat("v", 200000)} {
		counts(t, nil, "k", value, rec("k", value))
		counts(t, nil, "k", value, rec("k", "1"), rec("k", value))
		counts(t, with([]api.Record{rec("k", value)}), "k", value)
		counts(t, with([]api.Record{rec("k", "1"), rec("k", value)}), "k", value, rec("l", "2"))
	}
}

// P7.1: a key is the same byte by byte, or another one.
func TestValueKeys(t *testing.T) {
	keys := []string{"", "k", "K", "kk", "k ", " k", "k=", "k\x00", "\x00k", "\xff", "\xfe", "\u00e9", "e\u0301", "path", "Path", "linkpath", "uid", strings.Repeat("k", 1000)}
	var all []api.Record
	for i, key := range keys {
		all = append(all, rec(key, "v"+strconv.Itoa(i)))
	}
	for i, key := range keys {
		want := "v" + strconv.Itoa(i)
		counts(t, nil, key, want, all...)
		counts(t, with(all), key, want)
		others := slices.Delete(slices.Clone(all), i, i+1)
		counts(t, nil, key, "", others...)
		counts(t, with(others), key, "")
		counts(t, with(others), key, "", others...)
		counts(t, with(all), key, want, others...)
	}
}

// P7.1: all short lists, global and own, against the model; and the same where the global ones come by one call each.
func TestValueAll(t *testing.T) {
	all := lists(4, rec("k", ""), rec("k", "1"), rec("k", "2"), rec("l", "3"))
	for _, global := range all {
		at1, one := with(global), new(attr.State)
		for _, r := range global {
			one.Global(r)
		}
		for _, own := range all {
			for _, key := range []string{"k", "l", "m"} {
				want := modelValue(key, global, own)
				counts(t, at1, key, want, own...)
				counts(t, one, key, want, own...)
				counts(t, nil, key, modelValue(key, nil, own), own...)
			}
		}
	}
}

// P7.1: as many records as there are.
func TestValueMany(t *testing.T) {
	var list []api.Record
	for i := range 5000 {
		list = append(list, rec("k"+strconv.Itoa(i%1000), "v"+strconv.Itoa(i)))
	}
	s := with(list[:2500], list[2500:3900])
	for i := range 1000 {
		key := "k" + strconv.Itoa(i)
		counts(t, s, key, modelValue(key, list[:3900], nil))
		counts(t, nil, key, "v"+strconv.Itoa(4000+i), list...)
	}
	for i := range 200000 {
		s.Global(rec("k0", strconv.Itoa(i)))
	}
	counts(t, s, "k0", "199999")
}

// P7.1: Global of a nil state does nothing.
func TestGlobalNil(t *testing.T) {
	var s *attr.State
	s.Global()
	s.Global(rec("k", "1"), rec("uid", "x"))
	counts(t, s, "k", "")
	counts(t, new(attr.State), "k", "")
}

// P7.1 with R5: what is global in one state is not in another one.
func TestGlobalApart(t *testing.T) {
	a, b := with([]api.Record{rec("k", "1")}), with([]api.Record{rec("k", "2")})
	a.Global(rec("l", "3"))
	counts(t, a, "k", "1")
	counts(t, b, "k", "2")
	counts(t, b, "l", "")
	counts(t, new(attr.State), "k", "")
}

// P7.1 with R4: a list is neither changed, its spare room included, nor kept.
func TestGlobalLeavesList(t *testing.T) {
	room := []api.Record{rec("k", "1"), rec("l", "2"), rec("k", "3"), rec("m", "4")}
	was := slices.Clone(room)
	s := with(room[:2])
	s.Value("k", room[:3]...)
	s.Global(rec("n", "5"))
	if !slices.Equal(room, was) {
		t.Errorf("%q", room)
	}
	for i := range room {
		room[i] = rec("k", "other")
	}
	counts(t, s, "k", "1")
	counts(t, s, "l", "2")
	counts(t, s, "m", "")
}
