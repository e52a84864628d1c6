// Package wide is layer 1: numbers of 128 bits: see shared/doc/01-wide.md.
package wide

import (
	"cmp"
	"math"
	"math/bits"
)

// Num is a number of 128 bits: Hi times 2^64, and Lo.
type Num struct{ Hi, Lo uint64 }

func greatest() Num { return Num{Hi: math.MaxUint64, Lo: math.MaxUint64} }

// Of is a number.
func Of(n uint64) Num { return Num{Lo: n} }

// Mul is a product.
func Mul(a, b uint64) Num {
	hi, lo := bits.Mul64(a, b)
	return Num{Hi: hi, Lo: lo}
}

// Add is a sum; false: it does not fit, and is the greatest number.
func Add(a, b Num) (Num, bool) {
	lo, carry := bits.Add64(a.Lo, b.Lo, 0)
	hi, over := bits.Add64(a.Hi, b.Hi, carry)
	if over != 0 {
		return greatest(), false
	}
	return Num{Hi: hi, Lo: lo}, true
}

// Sub is a difference; false: b is above a, and it is 0.
func Sub(a, b Num) (Num, bool) {
	lo, borrow := bits.Sub64(a.Lo, b.Lo, 0)
	hi, under := bits.Sub64(a.Hi, b.Hi, borrow)
	if under != 0 {
		return Num{}, false
	}
	return Num{Hi: hi, Lo: lo}, true
}

// Div is a quotient, rounded down, and its rest; false: b is 0.
func Div(a Num, b uint64) (Num, uint64, bool) {
	if b == 0 {
		return Num{}, 0, false
	}
	// The upper word's rest is below b, as bits.Div64 needs it.
	lo, rest := bits.Div64(a.Hi%b, a.Lo, b)
	return Num{Hi: a.Hi / b, Lo: lo}, rest, true
}

// Times is a product with a small number; false: it does not fit, and is the greatest number.
func Times(a Num, b uint64) (Num, bool) {
	upper := Mul(a.Hi, b)
	if upper.Hi != 0 {
		return greatest(), false
	}
	return Add(Num{Hi: upper.Lo}, Mul(a.Lo, b))
}

// Cmp is -1, 0 or 1, as a is below b, the same, above b.
func Cmp(a, b Num) int {
	if a.Hi != b.Hi {
		return cmp.Compare(a.Hi, b.Hi)
	}
	return cmp.Compare(a.Lo, b.Lo)
}

// Shl shifts up by n bits, and what does not fit is lost; of n below 0 it is a.
func Shl(a Num, n int) Num {
	switch {
	case n < 0:
		return a
	case n < 64:
		return Num{Hi: a.Hi<<n | a.Lo>>(64-n), Lo: a.Lo << n}
	}
	return Num{Hi: a.Lo << (n - 64)}
}

// Shr shifts down by n bits, and what does not fit is lost; of n below 0 it is a.
func Shr(a Num, n int) Num {
	switch {
	case n < 0:
		return a
	case n < 64:
		return Num{Hi: a.Hi >> n, Lo: a.Lo>>n | a.Hi<<(64-n)}
	}
	return Num{Lo: a.Hi >> (n - 64)}
}

// Sqrt is the greatest number whose square is at most a.
func Sqrt(a Num) uint64 {
	root := uint64(0)
nextBit:
	for i := range 64 {
		// A root of 64 bits has a square of 128 at most, so that no bit can be lost.
		tried := root | 1<<(63-i)
		if Cmp(Mul(tried, tried), a) > 0 {
			continue nextBit
		}
		root = tried
	}
	return root
}
