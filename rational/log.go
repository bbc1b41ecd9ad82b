package rational

import (
	"keyhole/api"
	"keyhole/integer"
)

// Log2Floor returns the greatest k such that 2^k is at most x.
func Log2Floor(x api.Rat) (int, api.Code) {
	if Sign(x) <= 0 {
		return 0, api.ErrRange
	}
	num, den := ratio(x)
	// The bits alone determine the logarithm up to a difference below 1.
	k := integer.Bits(num) - integer.Bits(den)
	if compareWithPower(num, den, k) < 0 {
		k--
	}
	return k, api.OK
}

// Log2Ceil returns the least k such that 2^k is at least x.
func Log2Ceil(x api.Rat) (int, api.Code) {
	k, code := Log2Floor(x)
	if code != api.OK {
		return 0, code
	}
	num, den := ratio(x)
	if compareWithPower(num, den, k) > 0 {
		k++
	}
	return k, api.OK
}

// compareWithPower returns -1, 0 or 1 if num / den is less than, equal to or greater than 2^k; den is above 0.
func compareWithPower(num, den api.Int, k int) int {
	if k < 0 {
		return integer.Compare(timesPower(num, -k), den)
	}
	return integer.Compare(num, timesPower(den, k))
}

// timesPower returns x * 2^k; k is at least 0.
func timesPower(x api.Int, k int) api.Int {
	words := make([]uint32, k/32, k/32+len(x.Words)+1)
	carry := uint64(0)
	for _, w := range x.Words {
		carry |= uint64(w) << (k % 32)
		words = append(words, uint32(carry))
		carry >>= 32
	}
	return api.Int{Negative: x.Negative, Words: append(words, uint32(carry))}
}
