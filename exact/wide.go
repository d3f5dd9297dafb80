package exact

import (
	"math"
	"math/bits"
)

// wide is an integer of two words in two's complement, the high word first. It holds every product of two ints, and the sums and differences of which the ratios are made.
type wide [2]uint64

// product returns a b.
func product(a, b int) wide {
	high, low := bits.Mul64(uint64(a), uint64(b))
	// As a word without sign, a number n less than 0 counts as n + 2^64.
	if a < 0 {
		high -= uint64(b)
	}
	if b < 0 {
		high -= uint64(a)
	}
	return wide{high, low}
}

func (w wide) plus(v wide) wide {
	low, carry := bits.Add64(w[1], v[1], 0)
	high, _ := bits.Add64(w[0], v[0], carry)
	return wide{high, low}
}

func (w wide) minus(v wide) wide {
	low, borrow := bits.Sub64(w[1], v[1], 0)
	high, _ := bits.Sub64(w[0], v[0], borrow)
	return wide{high, low}
}

func (w wide) sign() int {
	if w[0] != 0 {
		return sign(int64(w[0]))
	}
	return sign(w[1])
}

// fold returns w and 0, or -1 - w and a word of ones if w is less than 0. An exclusive or with that word turns -1 - w back into w, and the floor of (-1 - w) / c into the floor of w / c.
func (w wide) fold() (wide, uint64) {
	mask := uint64(int64(w[0]) >> 63)
	return wide{w[0] ^ mask, w[1] ^ mask}, mask
}

// floor returns the greatest integer that is not greater than w / c, if it is an int; c is at least 1.
func (w wide) floor(c uint64) (int, bool) {
	v, mask := w.fold()
	if v[0] >= c {
		return 0, false
	}
	q, _ := bits.Div64(v[0], v[1], c)
	if q > math.MaxInt {
		return 0, false
	}
	return int(q ^ mask), true
}

// rest returns w less c times the floor of w / c; c is at least 1.
func (w wide) rest(c uint64) uint64 {
	v, mask := w.fold()
	r := bits.Rem64(v[0], v[1], c)
	if mask != 0 {
		return c - 1 - r
	}
	return r
}

// divisor returns the greatest integer that divides a and b; b is at least 1.
func divisor[T int | uint64](a, b T) T {
	for b != 0 {
		a, b = b, a%b
	}
	// The remainders of a number less than 0 are not positive.
	if a < 0 {
		return -a
	}
	return a
}

// sign returns -1, 0 or 1.
func sign[T int | int64 | uint64](n T) int {
	switch {
	case n < 0:
		return -1
	case n > 0:
		return 1
	}
	return 0
}
