// Package num is layer 1: see shared/doc/01-num.md.
package num

import "math"

// Add: the sum of a and b, at most most; each of the three that is below 0 counts as 0.
func Add(a, b, most int) int {
	a, b, most = max(a, 0), max(b, 0), max(most, 0)
	// a+b may wrap round; most-a can't, since neither is below 0.
	if b > most-a {
		return most
	}
	return a + b
}

// Less: how much more a is than b; 0, if it isn't, and the greatest number, if it is more than that.
func Less(a, b int) int {
	if a <= b {
		return 0
	}
	d := a - b
	// A difference of numbers with a above b is below 0 only if it wrapped round.
	if d < 0 {
		return math.MaxInt
	}
	return d
}

// Clamp: a number, brought between two; low goes ahead of high, if it is above it.
func Clamp(n, low, high int) int {
	if n < low {
		return low
	}
	if n > high {
		return high
	}
	return n
}

// In: is a number at least low, and at most high?
func In(n, low, high int) bool {
	return low <= n && n <= high
}
