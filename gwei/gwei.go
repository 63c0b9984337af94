// Package gwei is layer 1: checked arithmetic with amounts; see shared/doc/01-gwei.md.
package gwei

import (
	"math"
	"math/bits"
	"strconv"
)

// product has the most significant word first. It keeps both words of a
// multiplication, because the quotient may fit into one word although the
// product does not.
type product [2]uint64

// Add returns the sum of amounts.
func Add(l ...uint64) (uint64, bool) {
	var sum uint64
	for _, a := range l {
		next, carry := bits.Add64(sum, a, 0)
		// No later amount is negative, so the sum cannot become small again.
		if carry != 0 {
			return 0, false
		}
		sum = next
	}
	return sum, true
}

// Sub returns a difference.
func Sub(a, b uint64) (uint64, bool) {
	if b > a {
		return 0, false
	}
	return a - b, true
}

// MulDiv returns a*b/d.
func MulDiv(a, b, d uint64) (uint64, bool) {
	return multiply(a, b).divide(d)
}

func multiply(a, b uint64) product {
	high, low := bits.Mul64(a, b)
	return product{high, low}
}

func (p product) divide(d uint64) (uint64, bool) {
	// The quotient fits into one word exactly if the high word is less than d.
	// A divisor of 0 is refused by the same comparison.
	if p[0] >= d {
		return 0, false
	}
	q, _ := bits.Div64(p[0], p[1], d)
	return q, true
}

// Ceil returns a/d, rounded up.
func Ceil(a, d uint64) (uint64, bool) {
	if d == 0 {
		return 0, false
	}
	q := a / d
	// The usual a+d-1 may overflow; q+1 cannot, as a remainder requires d > 1.
	if a%d != 0 {
		q++
	}
	return q, true
}

// Saturate returns the sum of amounts, or the maximum uint64.
func Saturate(l ...uint64) (uint64, bool) {
	sum, ok := Add(l...)
	if !ok {
		return math.MaxUint64, true
	}
	return sum, false
}

// Parse returns the amount of a decimal string.
func Parse(s string) (uint64, bool) {
	a, err := strconv.ParseUint(s, 10, 64)
	// ParseUint accepts leading zeros, which Format never writes.
	if err != nil || Format(a) != s {
		return 0, false
	}
	return a, true
}

// Format returns the decimal string of an amount.
func Format(a uint64) string {
	return strconv.FormatUint(a, 10)
}
