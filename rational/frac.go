package rational

import (
	"math/bits"

	"keyhole/api"
)

// isFrac reports whether f is valid, in lowest terms or not.
func isFrac(f api.Frac) bool {
	return f.Num >= 0 && f.Den >= 1
}

// Reduce returns num / den in lowest terms.
func Reduce(num, den int) (api.Frac, api.Code) {
	if !isFrac(api.Frac{Num: num, Den: den}) {
		return api.Frac{}, api.ErrRange
	}
	divisor, rest := den, num
	for rest != 0 {
		divisor, rest = rest, divisor%rest
	}
	return api.Frac{Num: num / divisor, Den: den / divisor}, api.OK
}

// Less reports whether a and b are valid and a is less than b.
func Less(a, b api.Frac) bool {
	if !isFrac(a) || !isFrac(b) {
		return false
	}
	leftHigh, leftLow := bits.Mul64(uint64(a.Num), uint64(b.Den))
	rightHigh, rightLow := bits.Mul64(uint64(b.Num), uint64(a.Den))
	return leftHigh < rightHigh || leftHigh == rightHigh && leftLow < rightLow
}

// FromFrac returns f as a fraction of any size.
func FromFrac(f api.Frac) (api.Rat, api.Code) {
	if !isFrac(f) {
		return api.Rat{}, api.ErrRange
	}
	return Of(f.Num, f.Den)
}
