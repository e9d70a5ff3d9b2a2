// Package num is layer 1, numbers that are looked at: see shared/doc/01-num.md.
package num

import (
	"bindle/api"
)

// Max leaves room above it: a number up to Max and a block together do not wrap round.
const Max = 1 << 62

// Add: see P1.1.
func Add(list ...int) (int, bool) {
	sum := 0
	for _, n := range list {
		// Held against what is left, not added first: Max and Max together would wrap round.
		if !In(n, 0, Max-sum) {
			return 0, false
		}
		sum += n
	}
	return sum, true
}

// Mul: see P1.1.
func Mul(a, b int) (int, bool) {
	if !In(a, 0, Max) || !In(b, 0, Max) {
		return 0, false
	}
	// Divided, not multiplied first: a product that wraps round may look small.
	if a > 0 && b > Max/a {
		return 0, false
	}
	return a * b, true
}

// Pad: see P1.1.
func Pad(n int) (int, bool) {
	if !In(n, 0, Max) {
		return 0, false
	}
	over := n % api.Block
	if over == 0 {
		return n, true
	}
	return Add(n, api.Block-over)
}

// In: see P1.1.
func In(n, least, most int) bool {
	return least <= n && n <= most
}
