package integer

import (
	"cmp"
	"math/bits"
	"slices"
)

// The functions of this file calculate with magnitudes: slices of words, the least significant first, without zero words
// at the end. They return new memory and do not change their arguments.

// trim returns the words without the zero words at the end. It shares their memory.
func trim(words []uint32) []uint32 {
	for len(words) > 0 && words[len(words)-1] == 0 {
		words = words[:len(words)-1]
	}
	return words
}

// split returns the magnitude n.
func split(n uint64) []uint32 {
	return trim([]uint32{uint32(n), uint32(n >> 32)})
}

// join returns the number with at most two words.
func join(words []uint32) uint64 {
	n := uint64(0)
	for i, w := range words {
		n |= uint64(w) << (32 * i)
	}
	return n
}

// compareWords returns -1, 0 or 1 if a is less than, equal to or greater than b.
func compareWords(a, b []uint32) int {
	if len(a) != len(b) {
		return cmp.Compare(len(a), len(b))
	}
	for i := len(a) - 1; i >= 0; i-- {
		if a[i] != b[i] {
			return cmp.Compare(a[i], b[i])
		}
	}
	return 0
}

// addWords returns a + b.
func addWords(a, b []uint32) []uint32 {
	if len(a) < len(b) {
		a, b = b, a
	}
	sum := make([]uint32, len(a)+1)
	carry := uint64(0)
	for i, x := range a {
		carry += uint64(x)
		if i < len(b) {
			carry += uint64(b[i])
		}
		sum[i] = uint32(carry)
		carry >>= 32
	}
	sum[len(a)] = uint32(carry)
	return trim(sum)
}

// subtractWords returns a - b; a is at least b.
func subtractWords(a, b []uint32) []uint32 {
	return combine(1, a, 1, b)
}

// combine returns m * a - n * b, if that is from 0 to a, and m and n are below 2^32. It leaves out the words of b beyond
// those of a, which cannot show in such a result.
func combine(m uint64, a []uint32, n uint64, b []uint32) []uint32 {
	result := make([]uint32, len(a))
	var plus, minus, borrow uint64
	for i, x := range a {
		plus += m * uint64(x)
		minus += borrow
		if i < len(b) {
			minus += n * uint64(b[i])
		}
		difference := plus&0xffffffff - minus&0xffffffff
		result[i] = uint32(difference)
		borrow = difference >> 63
		plus >>= 32
		minus >>= 32
	}
	return trim(result)
}

// multiplyWords returns a * b.
func multiplyWords(a, b []uint32) []uint32 {
	product := make([]uint32, len(a)+len(b))
	for i, x := range a {
		carry := uint64(0)
		row := product[i : i+len(b)]
		for j, y := range b {
			carry += uint64(x)*uint64(y) + uint64(row[j])
			row[j] = uint32(carry)
			carry >>= 32
		}
		product[i+len(b)] = uint32(carry)
	}
	return trim(product)
}

// divideWords returns the quotient of a by b, rounded down, and the remainder; b is not 0.
func divideWords(a, b []uint32) (quotient, rest []uint32) {
	switch {
	case compareWords(a, b) < 0:
		return nil, slices.Clone(a)
	case len(b) == 1:
		quotient, last := divideByWord(a, b[0])
		return quotient, trim([]uint32{last})
	}
	shift := bits.LeadingZeros32(b[len(b)-1])
	divisor := shiftUp(b, shift)[:len(b)]
	remainder := shiftUp(a, shift)
	quotient = make([]uint32, len(a)-len(b)+1)
	for i := len(quotient) - 1; i >= 0; i-- {
		quotient[i] = divideStep(remainder[i:i+len(b)+1], divisor)
	}
	return trim(quotient), trim(shiftDown(remainder, shift))
}

// divideByWord returns the quotient of a by n, rounded down, and the remainder; n is not 0.
func divideByWord(a []uint32, n uint32) ([]uint32, uint32) {
	quotient := make([]uint32, len(a))
	rest := uint64(0)
	for i := len(a) - 1; i >= 0; i-- {
		rest = rest<<32 | uint64(a[i])
		quotient[i] = uint32(rest / uint64(n))
		rest %= uint64(n)
	}
	return trim(quotient), uint32(rest)
}

// shiftUp returns a * 2^shift with just one word more than a; shift is below 32.
func shiftUp(a []uint32, shift int) []uint32 {
	result := make([]uint32, len(a)+1)
	carry := uint64(0)
	for i, x := range a {
		carry |= uint64(x) << shift
		result[i] = uint32(carry)
		carry >>= 32
	}
	result[len(a)] = uint32(carry)
	return result
}

// shiftDown returns a / 2^shift, rounded down, with as many words as a; shift is below 32.
func shiftDown(a []uint32, shift int) []uint32 {
	result := make([]uint32, len(a))
	high := uint64(0)
	for i := len(a) - 1; i >= 0; i-- {
		high = high<<32 | uint64(a[i])
		result[i] = uint32(high >> shift)
	}
	return result
}

// divideStep returns the quotient of part by divisor and leaves the remainder in part. It is a step of long division:
// part has one word more than divisor, the quotient is one word, and divisor has at least two words and its highest bit.
func divideStep(part, divisor []uint32) uint32 {
	n := len(divisor)
	top := uint64(part[n])<<32 | uint64(part[n-1])
	guess := top / uint64(divisor[n-1])
	rest := top % uint64(divisor[n-1])
	// Two words of the divisor make the guess at most one too high.
	for guess>>32 != 0 || guess*uint64(divisor[n-2]) > rest<<32|uint64(part[n-2]) {
		guess--
		rest += uint64(divisor[n-1])
		if rest>>32 != 0 {
			break
		}
	}
	if subtractMultiple(part, divisor, guess) {
		addBack(part, divisor)
		guess--
	}
	return uint32(guess)
}

// subtractMultiple subtracts divisor * factor from part and reports whether that was too much; factor is below 2^32.
func subtractMultiple(part, divisor []uint32, factor uint64) bool {
	var product, borrow uint64
	for i := range part {
		if i < len(divisor) {
			product += factor * uint64(divisor[i])
		}
		difference := uint64(part[i]) - product&0xffffffff - borrow
		part[i] = uint32(difference)
		borrow = difference >> 63
		product >>= 32
	}
	return borrow != 0
}

// addBack adds divisor to part and drops the carry, which ends the borrow of a subtraction that was too much.
func addBack(part, divisor []uint32) {
	carry := uint64(0)
	for i := range part {
		carry += uint64(part[i])
		if i < len(divisor) {
			carry += uint64(divisor[i])
		}
		part[i] = uint32(carry)
		carry >>= 32
	}
}
