package num_test

import (
	"math"
	"math/big"
	"slices"
	"testing"

	"bindle/api"
	"bindle/num"
)

// edges are the numbers at which an answer may turn: ends, powers of two that wrap round, blocks' multiples.
func edges() []int {
	list := []int{math.MinInt, math.MinInt + 1, math.MaxInt - 1, math.MaxInt, 3, 5, 7, 10, 100, 1000000007}
	for bit := range 63 {
		n := 1 << bit
		list = append(list, n-1, n, n+1, -n)
	}
	for n := range 4 {
		list = append(list, n*api.Block-1, n*api.Block, n*api.Block+1)
	}
	list = append(list, num.Max-api.Block-1, num.Max-api.Block, num.Max-api.Block+1, num.Max/3, num.Max/3+1)
	slices.Sort(list)
	return slices.Compact(list)
}

func fits(n *big.Int) bool {
	return n.Sign() >= 0 && n.Cmp(big.NewInt(num.Max)) <= 0
}

// expect holds an answer against the exact number want; wrong says that an argument was out of bounds.
func expect(t *testing.T, got int, ok bool, want *big.Int, wrong bool, what string, args ...int) {
	t.Helper()
	if wrong || !fits(want) {
		if got != 0 || ok {
			t.Errorf("%s%v: %d, %v, want 0, false", what, args, got, ok)
		}
		return
	}
	if !ok || int64(got) != want.Int64() {
		t.Errorf("%s%v: %d, %v, want %v, true", what, args, got, ok, want)
	}
}

func outside(n int) bool { return n < 0 || n > num.Max }

func TestMax(t *testing.T) {
	if num.Max != 4611686018427387904 {
		t.Error(num.Max)
	}
}

// P1.1: Add, by cases.
func TestAdd(t *testing.T) {
	for _, x := range []struct {
		list []int
		want int
		ok   bool
	}{
		{nil, 0, true},
		{[]int{}, 0, true},
		{[]int{0}, 0, true},
		{[]int{0, 0, 0}, 0, true},
		{[]int{7}, 7, true},
		{[]int{1, 2, 3}, 6, true},
		{[]int{512, 100, 412}, 1024, true},
		{[]int{num.Max}, num.Max, true},
		{[]int{0, num.Max, 0}, num.Max, true},
		{[]int{num.Max - 1, 1}, num.Max, true},
		{[]int{1, num.Max - 1}, num.Max, true},
		{[]int{num.Max / 2, num.Max / 2}, num.Max, true},
		{[]int{num.Max, 1}, 0, false},
		{[]int{1, num.Max}, 0, false},
		{[]int{num.Max / 2, num.Max / 2, 1}, 0, false},
		{[]int{num.Max, num.Max}, 0, false},                   // would be the least number of all
		{[]int{num.Max, num.Max, num.Max, num.Max}, 0, false}, // would be 0
		{[]int{num.Max, num.Max, num.Max, num.Max, 5}, 0, false},
		{[]int{num.Max + 1}, 0, false},
		{[]int{num.Max + 1, 0}, 0, false},
		{[]int{0, math.MaxInt}, 0, false},
		{[]int{math.MaxInt, math.MaxInt, 2}, 0, false},
		{[]int{-1}, 0, false},
		{[]int{-1, 2}, 0, false},
		{[]int{2, -1}, 0, false},
		{[]int{1, 2, 3, -6, 4}, 0, false},
		{[]int{num.Max, 1, -1}, 0, false},
		{[]int{num.Max + 1, -1}, 0, false},
		{[]int{math.MinInt}, 0, false},
		{[]int{math.MinInt, math.MinInt}, 0, false},
	} {
		if got, ok := num.Add(x.list...); got != x.want || ok != x.ok {
			t.Errorf("Add%v: %d, %v, want %d, %v", x.list, got, ok, x.want, x.ok)
		}
	}
}

// P1.1: Add has as many numbers as there are.
func TestAddMany(t *testing.T) {
	list := make([]int, 10000)
	want := 0
	for i := range list {
		list[i] = i
		want += i
	}
	if got, ok := num.Add(list...); got != want || !ok {
		t.Error(got, ok)
	}
	for _, n := range []int{-1, num.Max + 1, num.Max - want + 10000} {
		list[9999] = n
		if got, ok := num.Add(list...); got != 0 || ok {
			t.Error(n, got, ok)
		}
	}
	list[9999] = num.Max - (want - 9999)
	if got, ok := num.Add(list...); got != num.Max || !ok {
		t.Error(got, ok)
	}
}

// P1.1 with R4: the list is not changed, its spare room included.
func TestAddLeavesList(t *testing.T) {
	whole := []int{1, 2, 3, 4, 5}
	num.Add(whole[:3]...)
	num.Add(whole[:0]...)
	if !slices.Equal(whole, []int{1, 2, 3, 4, 5}) {
		t.Error(whole)
	}
}

// P1.1: Add and Mul of all pairs of edges, against exact numbers.
func TestPairs(t *testing.T) {
	list := edges()
	for _, a := range list {
		for _, b := range list {
			x, y := big.NewInt(int64(a)), big.NewInt(int64(b))
			wrong := outside(a) || outside(b)
			sum, ok := num.Add(a, b)
			expect(t, sum, ok, new(big.Int).Add(x, y), wrong, "Add", a, b)
			product, ok := num.Mul(a, b)
			expect(t, product, ok, new(big.Int).Mul(x, y), wrong, "Mul", a, b)
		}
	}
}

// P1.1: Mul, by cases.
func TestMul(t *testing.T) {
	for _, x := range []struct {
		a, b, want int
		ok         bool
	}{
		{0, 0, 0, true},
		{0, 1, 0, true},
		{3, 4, 12, true},
		{512, 3, 1536, true},
		{0, num.Max, 0, true},
		{num.Max, 0, 0, true},
		{1, num.Max, num.Max, true},
		{num.Max, 1, num.Max, true},
		{2, num.Max / 2, num.Max, true},
		{1 << 31, 1 << 31, num.Max, true},
		{3, num.Max / 3, num.Max - 1, true},
		{3, num.Max/3 + 1, 0, false},
		{num.Max/3 + 1, 3, 0, false},
		{2, num.Max/2 + 1, 0, false},
		{1 << 31, 1<<31 + 1, 0, false},
		{num.Max, 2, 0, false},
		{num.Max, 4, 0, false},           // would be 0
		{1 << 32, 1 << 32, 0, false},     // would be 0
		{1<<32 + 1, 1<<32 - 1, 0, false}, // would be -1
		{1<<32 + 1, 1<<32 + 1, 0, false}, // would be small
		{num.Max, num.Max, 0, false},     // would be 0
		{num.Max + 1, 0, 0, false},       // a product that is not too large
		{0, num.Max + 1, 0, false},
		{1, num.Max + 1, 0, false},
		{0, math.MaxInt, 0, false},
		{-1, 0, 0, false},
		{0, -1, 0, false},
		{0, math.MinInt, 0, false},
		{-1, 1, 0, false},
		{1, -1, 0, false},
		{-1, -1, 0, false},
		{-3, -4, 0, false},
		{math.MinInt, -1, 0, false}, // the quotient of these wraps round, too
		{-1, math.MinInt, 0, false},
		{math.MinInt, math.MinInt, 0, false},
	} {
		if got, ok := num.Mul(x.a, x.b); got != x.want || ok != x.ok {
			t.Errorf("Mul(%d, %d): %d, %v, want %d, %v", x.a, x.b, got, ok, x.want, x.ok)
		}
	}
}

// P1.1: Pad, by cases.
func TestPad(t *testing.T) {
	for _, x := range []struct {
		n, want int
		ok      bool
	}{
		{0, 0, true},
		{1, 512, true},
		{511, 512, true},
		{512, 512, true},
		{513, 1024, true},
		{1023, 1024, true},
		{1024, 1024, true},
		{1025, 1536, true},
		{num.Max - 513, num.Max - 512, true},
		{num.Max - 512, num.Max - 512, true},
		{num.Max - 511, num.Max, true},
		{num.Max - 1, num.Max, true},
		{num.Max, num.Max, true},
		{num.Max + 1, 0, false},
		{num.Max + 512, 0, false},
		{math.MaxInt, 0, false},
		{-1, 0, false},
		{-511, 0, false},
		{-512, 0, false},
		{-513, 0, false},
		{math.MinInt, 0, false},
	} {
		if got, ok := num.Pad(x.n); got != x.want || ok != x.ok {
			t.Errorf("Pad(%d): %d, %v, want %d, %v", x.n, got, ok, x.want, x.ok)
		}
	}
}

// P1.1: Pad answers a multiple, none below n, and the least such one.
func TestPadLeast(t *testing.T) {
	list := edges()
	for n := range 5*api.Block + 2 {
		list = append(list, n)
	}
	for _, n := range list {
		got, ok := num.Pad(n)
		if outside(n) {
			if got != 0 || ok {
				t.Errorf("Pad(%d): %d, %v", n, got, ok)
			}
			continue
		}
		if !ok || got%api.Block != 0 || got < n || got-n >= api.Block {
			t.Errorf("Pad(%d): %d, %v", n, got, ok)
		}
	}
}

// P1.1: In, by cases.
func TestIn(t *testing.T) {
	for _, x := range []struct {
		n, least, most int
		want           bool
	}{
		{5, 1, 9, true},
		{1, 1, 9, true},
		{9, 1, 9, true},
		{0, 1, 9, false},
		{10, 1, 9, false},
		{4, 4, 4, true},
		{3, 4, 4, false},
		{5, 4, 4, false},
		{0, -1, 1, true},
		{-1, -1, 1, true},
		{-2, -1, 1, false},
		{-5, -7, -3, true},
		{-8, -7, -3, false},
		{-2, -7, -3, false},
		{0, 0, num.Max, true},
		{num.Max, 0, num.Max, true},
		{num.Max + 1, 0, num.Max, false},
		{-1, 0, num.Max, false},
		{5, 9, 1, false},
		{9, 9, 1, false},
		{1, 9, 1, false},
		{0, math.MinInt, math.MaxInt, true},
		{math.MinInt, math.MinInt, math.MaxInt, true},
		{math.MaxInt, math.MinInt, math.MaxInt, true},
		{math.MinInt, math.MinInt + 1, math.MaxInt, false},
		{math.MaxInt, math.MinInt, math.MaxInt - 1, false},
		{0, math.MaxInt, math.MinInt, false},
	} {
		if got := num.In(x.n, x.least, x.most); got != x.want {
			t.Errorf("In(%d, %d, %d): %v", x.n, x.least, x.most, got)
		}
	}
}
