package tally

import "math/bits"

// wide is a number of 128 bits: a sum of numbers of 64 bits goes beyond those on its way, and may come back.
type wide struct {
	high int64
	low  uint64
}

// widened has the number's sign in all of its higher bits.
func widened(n int64) wide { return wide{high: n >> 63, low: uint64(n)} }

func (w wide) plus(other wide) wide {
	low, carry := bits.Add64(w.low, other.low, 0)
	return wide{high: w.high + other.high + int64(carry), low: low}
}

// narrowed is the number in 64 bits, and tells whether it has room there.
func (w wide) narrowed() (int64, bool) {
	n := int64(w.low)
	return n, widened(n) == w
}
