package integer

import (
	"math/bits"
	"slices"
)

// gcdWords returns the greatest common divisor of the magnitudes a and b.
func gcdWords(a, b []uint32) []uint32 {
	if compareWords(a, b) < 0 {
		a, b = b, a
	}
	for len(b) > 2 {
		a, b = shrink(a, b)
	}
	if len(b) == 0 {
		return slices.Clone(a)
	}
	if len(a) > 2 {
		_, rest := divideWords(a, b)
		a, b = b, rest
	}
	return split(gcdSmall(join(a), join(b)))
}

// gcdSmall returns the greatest common divisor of a and b.
func gcdSmall(a, b uint64) uint64 {
	for b != 0 {
		a, b = b, a%b
	}
	return a
}

// shrink returns two smaller magnitudes with the same common divisors as a and b, the greater one first; a is at least b,
// and b has more than two words.
func shrink(a, b []uint32) ([]uint32, []uint32) {
	s := foresee(a, b)
	switch {
	case s.count == 0:
		_, rest := divideWords(a, b)
		return b, rest
	case s.count%2 == 0:
		return combine(s.a0, a, s.b0, b), combine(s.b1, b, s.a1, a)
	}
	return combine(s.b0, b, s.a0, a), combine(s.a1, a, s.b1, b)
}

// strides is what a number of steps of Euclid's algorithm make of two magnitudes a and b: a0 * a - b0 * b and
// b1 * b - a1 * a after an even number of steps, and the negatives of these after an odd number.
type strides struct {
	count          int
	a0, b0, a1, b1 uint64
}

// foresee makes the steps of Euclid's algorithm with the leading 64 bits of a and b alone (Lehmer's algorithm). It stops
// before the first step after which the bits that are left out could make the second number negative or greater than the
// first (Collins's condition). All factors of the result are below 2^32, since b1 is at most y, and b1 * x is at most the
// leading bits of a.
func foresee(a, b []uint32) strides {
	n := len(a)
	shift := bits.LeadingZeros32(a[n-1])
	x, y := leading(a, n, shift), leading(b, n, shift)
	s := strides{a0: 1, b1: 1}
	for y != 0 {
		quotient := x / y
		x, y = y, x-quotient*y
		next := strides{s.count + 1, s.a1, s.b1, s.a0 + quotient*s.a1, s.b0 + quotient*s.b1}
		if y < next.b1 || x-y < next.b0+next.b1 {
			break
		}
		s = next
	}
	return s
}

// leading returns the 64 bits of a from the bit 32 * n - shift on downwards; n is at least 3.
func leading(a []uint32, n, shift int) uint64 {
	word := func(i int) uint64 {
		if i < len(a) {
			return uint64(a[i])
		}
		return 0
	}
	return word(n-1)<<(32+shift) | word(n-2)<<shift | word(n-3)>>(32-shift)
}
