// Package money is layer 1: checked arithmetic (shared/doc/01-money.md).
package money

import "math/bits"

// Add returns a + b and true, or 0 and false if this is greater than 2^64 - 1.
func Add(a, b uint64) (uint64, bool) {
	sum, carry := bits.Add64(a, b, 0)
	if carry != 0 {
		return 0, false
	}
	return sum, true
}

// Sub returns a - b and true, or 0 and false if this is less than 0.
func Sub(a, b uint64) (uint64, bool) {
	if a < b {
		return 0, false
	}
	return a - b, true
}

// Mul returns a * b and true, or 0 and false if this is greater than 2^64 - 1.
func Mul(a, b uint64) (uint64, bool) {
	high, low := bits.Mul64(a, b)
	if high != 0 {
		return 0, false
	}
	return low, true
}

// MulDiv returns the exact a * b / c, rounded down, and true, or 0 and false if there is no such number up to 2^64 - 1.
func MulDiv(a, b, c uint64) (uint64, bool) {
	high, low := bits.Mul64(a, b)
	// The quotient is below 2^64 just if high is less than c, so this refuses c = 0, too: bits.Div64 would panic in both cases.
	if high >= c {
		return 0, false
	}
	quotient, _ := bits.Div64(high, low, c)
	return quotient, true
}

// Sum returns the sum of the elements of l and true, or 0 and false if it is greater than 2^64 - 1.
func Sum(l []uint64) (uint64, bool) {
	var sum uint64
	for _, x := range l {
		// No element is negative, so a sum that is too large stays so.
		next, ok := Add(sum, x)
		if !ok {
			return 0, false
		}
		sum = next
	}
	return sum, true
}
