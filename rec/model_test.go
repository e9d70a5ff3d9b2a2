package rec_test

import (
	"bytes"
	"encoding/binary"
	"fmt"
	"math"
	"math/rand"
	"strings"
	"testing"

	"bindle/api"
	"bindle/num"
	"bindle/rec"
)

// item is an item with these fields.
func item(key string, seq int, data string) api.Item {
	return api.Item{Key: key, Seq: seq, Data: []byte(data)}
}

// modelMay is the document's word of an item that may be.
func modelMay(x api.Item) bool {
	return len(x.Key) < 201 && x.Seq >= 0 && x.Seq <= num.Max && len(x.Data) < 1<<20+1
}

// laid is an item's bytes by the library's own numbers, whether it may be or not.
func laid(x api.Item) []byte {
	b := binary.BigEndian.AppendUint32(nil, uint32(len(x.Key)))
	b = append(b, x.Key...)
	b = binary.BigEndian.AppendUint64(b, uint64(x.Seq))
	b = binary.BigEndian.AppendUint32(b, uint32(len(x.Data)))
	return append(b, x.Data...)
}

// modelGet looks for the item whose bytes b begins with: it tries where its parts would end, and lays what stands there again.
func modelGet(b []byte) (api.Item, int, bool) {
	for key := 0; key <= 200 && key+16 <= len(b); key++ {
		if !bytes.HasPrefix(b, []byte{0, 0, 0, byte(key)}) {
			continue
		}
		seq := binary.BigEndian.Uint64(b[4+key:])
		if seq > num.Max {
			continue
		}
		size := int(binary.BigEndian.Uint32(b[12+key:]))
		if size > 1<<20 || 16+key+size > len(b) {
			continue
		}
		x := api.Item{Key: string(b[4 : 4+key]), Seq: int(seq), Data: b[16+key : 16+key+size]}
		if bytes.HasPrefix(b, laid(x)) {
			return x, len(laid(x)), true
		}
	}
	return api.Item{}, 0, false
}

// modelLess holds keys against one another byte by byte, and then the numbers.
func modelLess(a, b api.Item) bool {
	for i := 0; i < len(a.Key) && i < len(b.Key); i++ {
		if a.Key[i] != b.Key[i] {
			return a.Key[i] < b.Key[i]
		}
	}
	if len(a.Key) != len(b.Key) {
		return len(a.Key) < len(b.Key)
	}
	return a.Seq < b.Seq
}

// modelSame holds what is told of two items against one another.
func modelSame(a, b api.Item) bool {
	return fmt.Sprintf("%q %d %q", a.Key, a.Seq, a.Data) == fmt.Sprintf("%q %d %q", b.Key, b.Seq, b.Data)
}

// modelSorted takes the first of the least ones that are left, again and again.
func modelSorted(list []api.Item) []api.Item {
	left := append([]api.Item(nil), list...)
	var out []api.Item
	for len(left) > 0 {
		least := 0
		for i := range left {
			if modelLess(left[i], left[least]) {
				least = i
			}
		}
		out = append(out, left[least])
		left = append(left[:least], left[least+1:]...)
	}
	return out
}

// told is an item as a text, a long one cut off.
func told(x api.Item) string {
	return fmt.Sprintf("{%.40q (%d) %d %.40q (%d)}", x.Key, len(x.Key), x.Seq, x.Data, len(x.Data))
}

// toldList is a list of items as a text.
func toldList(list []api.Item) string {
	var b strings.Builder
	for _, x := range list {
		b.WriteString(told(x))
	}
	return b.String()
}

// sameList tells whether two lists have the same items in one order.
func sameList(a, b []api.Item) bool {
	if len(a) != len(b) {
		return false
	}
	for i := range a {
		if !modelSame(a[i], b[i]) {
			return false
		}
	}
	return true
}

// seqs are numbers at all edges: those that may be, then those that may not be.
func seqs() []int {
	list := []int{0, 1, 2, 127, 128, 255, 256, 257, 65535, 65536, 1<<31 - 1, 1 << 31, 1<<32 - 1, 1 << 32, 1<<62 - 1, num.Max}
	return append(list, num.Max+1, math.MaxInt, -1, -2, -num.Max, math.MinInt)
}

// someKeys are keys that are short, strange, and as long as they may be or more.
func someKeys() []string {
	long := strings.Repeat("k", 199)
	return []string{"", "a", "b", "ab", "a.b", "a/b", "\x00", "\x00\x00", "\x00a", "\xff", "\xff\xfe", "/", "..", "\u00e9", long, long + "k", long + "\xff", long + "kk", long + long}
}

// someData is data that is empty, short, and like a number.
func someData() []string {
	return []string{"", "x", "y", "\x00", "\x00\x00\x00\x00", "\xff\xff", strings.Repeat("d", 255), strings.Repeat("d", 256), strings.Repeat("d", 70000)}
}

// drawn is an item of few keys and numbers, so that many are as good as one another.
func drawn(pick *rand.Rand) api.Item {
	keys := []string{"", "a", "a\x00", "a.b", "a/b", "b", "\xff"}
	numbers := []int{-1, 0, 1, 2, num.Max, math.MaxInt, math.MinInt}
	return item(keys[pick.Intn(len(keys))], numbers[pick.Intn(len(numbers))], string(byte('a'+pick.Intn(20))))
}

// put expects Put of x to answer as the model does, and Get of that to answer x.
func put(t *testing.T, x api.Item) {
	t.Helper()
	b, ok := rec.Put(x)
	if !modelMay(x) {
		if ok || len(b) > 0 {
			t.Errorf("Put of %s: %.60q, %v", told(x), b, ok)
		}
		return
	}
	if !ok || !bytes.Equal(b, laid(x)) {
		t.Errorf("Put of %s: %.60q, %v", told(x), b, ok)
	}
	y, n, ok := rec.Get(b)
	if !ok || n != len(b) || !modelSame(x, y) {
		t.Errorf("Get of the bytes of %s: %s, %d, %v", told(x), told(y), n, ok)
	}
}

// get expects Get of b to answer as the model does.
func get(t *testing.T, b []byte) {
	t.Helper()
	want, size, may := modelGet(b)
	x, n, ok := rec.Get(b)
	if ok != may || n != size || !modelSame(x, want) {
		t.Errorf("Get of %.60q (%d): %s, %d, %v, not %s, %d, %v", b, len(b), told(x), n, ok, told(want), size, may)
	}
}
