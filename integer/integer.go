// Package integer is layer 1, integers of any size: see shared/doc/01-integer.md.
package integer

import (
	"cmp"
	"math/bits"
	"slices"

	"keyhole/api"
)

// Valid reports whether x is canonical.
func Valid(x api.Int) bool {
	if len(x.Words) == 0 {
		return !x.Negative
	}
	return x.Words[len(x.Words)-1] != 0
}

// Clean returns the canonical form of x.
func Clean(x api.Int) api.Int {
	return signed(x.Negative, slices.Clone(trim(x.Words)))
}

// signed returns the integer with this sign and this magnitude in canonical form. It keeps the words.
func signed(negative bool, words []uint32) api.Int {
	words = trim(words)
	if len(words) == 0 {
		return api.Int{}
	}
	return api.Int{Negative: negative, Words: words}
}

// Of returns the integer n.
func Of(n int) api.Int {
	magnitude := uint64(n)
	if n < 0 {
		// In unsigned numbers the least int has a negative too.
		magnitude = -magnitude
	}
	return signed(n < 0, split(magnitude))
}

// Small returns x as an int, and whether it fits into 64 bits.
func Small(x api.Int) (int, bool) {
	words := trim(x.Words)
	if len(words) > 2 {
		return 0, false
	}
	magnitude := join(words)
	switch {
	case x.Negative && magnitude <= 1<<63:
		return int(-magnitude), true
	case !x.Negative && magnitude < 1<<63:
		return int(magnitude), true
	}
	return 0, false
}

// Sign returns -1, 0 or 1.
func Sign(x api.Int) int {
	switch {
	case len(trim(x.Words)) == 0:
		return 0
	case x.Negative:
		return -1
	}
	return 1
}

// Neg returns -x.
func Neg(x api.Int) api.Int {
	return signed(!x.Negative, slices.Clone(trim(x.Words)))
}

// Abs returns the magnitude of x.
func Abs(x api.Int) api.Int {
	return signed(false, slices.Clone(trim(x.Words)))
}

// Bits returns the number of bits of the magnitude of x, 0 for zero.
func Bits(x api.Int) int {
	words := trim(x.Words)
	if len(words) == 0 {
		return 0
	}
	last := len(words) - 1
	return 32*last + bits.Len32(words[last])
}

// Add returns x + y.
func Add(x, y api.Int) api.Int {
	return addSigned(x, y, y.Negative)
}

// Sub returns x - y.
func Sub(x, y api.Int) api.Int {
	return addSigned(x, y, !y.Negative)
}

// addSigned returns the sum of x and of the magnitude of y with the given sign.
func addSigned(x, y api.Int, negative bool) api.Int {
	a, b := trim(x.Words), trim(y.Words)
	switch {
	case x.Negative == negative:
		return signed(negative, addWords(a, b))
	case compareWords(a, b) < 0:
		return signed(negative, subtractWords(b, a))
	}
	return signed(x.Negative, subtractWords(a, b))
}

// Mul returns x * y.
func Mul(x, y api.Int) api.Int {
	return signed(x.Negative != y.Negative, multiplyWords(trim(x.Words), trim(y.Words)))
}

// Divide returns the quotient of x by y rounded towards minus infinity, and the remainder x - q * y.
func Divide(x, y api.Int) (q, r api.Int, code api.Code) {
	divisor := trim(y.Words)
	if len(divisor) == 0 {
		return api.Int{}, api.Int{}, api.ErrArgument
	}
	quotient, rest := divideWords(trim(x.Words), divisor)
	negative := x.Negative != y.Negative
	if negative && len(rest) > 0 {
		// The magnitudes are rounded towards zero, which is one too high here.
		quotient = addWords(quotient, []uint32{1})
		rest = subtractWords(divisor, rest)
	}
	return signed(negative, quotient), signed(y.Negative, rest), api.OK
}

// Gcd returns the greatest common divisor of x and y, at least 0.
func Gcd(x, y api.Int) api.Int {
	return signed(false, gcdWords(trim(x.Words), trim(y.Words)))
}

// Compare returns -1, 0 or 1: whether x is less than, equal to or greater than y.
func Compare(x, y api.Int) int {
	a, b := Sign(x), Sign(y)
	if a != b {
		return cmp.Compare(a, b)
	}
	return a * compareWords(trim(x.Words), trim(y.Words))
}
