// Package fix is layer 1: see shared/doc/01-fix.md.
package fix

import (
	"math/bits"

	"treadle/api"
)

// most is the greatest number: what is too great becomes it.
const most = 1<<64 - 1

// one is the ratio of two equal numbers.
const one = 65536

// Add is a + b, or the greatest number.
func Add(a, b uint64) uint64 {
	sum, carry := bits.Add64(a, b, 0)
	if carry != 0 {
		return most
	}
	return sum
}

// Sub is a - b, or 0.
func Sub(a, b uint64) uint64 {
	if a < b {
		return 0
	}
	return a - b
}

// Mul is a * b, or the greatest number.
func Mul(a, b uint64) uint64 {
	high, low := bits.Mul64(a, b)
	if high != 0 {
		return most
	}
	return low
}

// MulDiv is a * b / c, rounded down, or the greatest number.
func MulDiv(a, b, c uint64) (uint64, api.Errno) {
	if c == 0 {
		return 0, api.ErrArg
	}
	return mulDiv(a, b, c), api.OK
}

// mulDiv is MulDiv of a c that isn't 0.
func mulDiv(a, b, c uint64) uint64 {
	high, low := bits.Mul64(a, b)
	// bits.Div64 panics where the quotient has more than 64 bits: just where high isn't below c.
	if high >= c {
		return most
	}
	quotient, _ := bits.Div64(high, low, c)
	return quotient
}

// Percent is a and p hundredths of it.
func Percent(a uint64, p int) uint64 {
	if p < 0 {
		return a
	}
	return Add(a, mulDiv(a, uint64(p), 100))
}

// Ratio is a / b in 65536ths.
func Ratio(a, b uint64) uint64 {
	if b == 0 {
		return most
	}
	return mulDiv(a, one, b)
}

// Scale is a times a ratio, in 65536ths.
func Scale(a, ratio uint64) uint64 {
	return mulDiv(a, ratio, one)
}
