package integer

import (
	"math/bits"
	"strconv"
	"strings"

	"keyhole/api"
)

const (
	// maxDigits is the number of digits that Parse accepts.
	maxDigits = 600
	// groupDigits is the number of digits of a group that is converted at once, and group is the number of its values.
	groupDigits = 19
	group       = 10_000_000_000_000_000_000
)

// Parse returns the integer with the decimal text s.
func Parse(s string) (api.Int, api.Code) {
	if len(s) > maxDigits+1 {
		return api.Int{}, api.ErrLong
	}
	digits, negative := strings.CutPrefix(s, "-")
	if !isNumber(digits) || negative && digits == "0" {
		return api.Int{}, api.ErrSyntax
	}
	if len(digits) > maxDigits {
		return api.Int{}, api.ErrLong
	}
	var words []uint32
	for _, digit := range []byte(digits) {
		words = appendDigit(words, digit)
	}
	return signed(negative, words), api.OK
}

// isNumber reports whether s is digits without leading zeros.
func isNumber(s string) bool {
	return strings.Trim(s, "0123456789") == "" && (s == "0" || s != "" && s[0] != '0')
}

// appendDigit returns ten times the magnitude plus the digit, in the memory of the magnitude.
func appendDigit(words []uint32, digit byte) []uint32 {
	carry := uint64(digit - '0')
	for i, w := range words {
		carry += 10 * uint64(w)
		words[i] = uint32(carry)
		carry >>= 32
	}
	if carry != 0 {
		words = append(words, uint32(carry))
	}
	return words
}

// Text returns the decimal text of x.
func Text(x api.Int) string {
	if Sign(x) == 0 {
		return "0"
	}
	var text strings.Builder
	if x.Negative {
		text.WriteByte('-')
	}
	groups := decimalGroups(x.Words)
	last := len(groups) - 1
	text.WriteString(strconv.FormatUint(groups[last], 10))
	for i := last - 1; i >= 0; i-- {
		digits := strconv.FormatUint(groups[i], 10)
		text.WriteString(strings.Repeat("0", groupDigits-len(digits)))
		text.WriteString(digits)
	}
	return text.String()
}

// decimalGroups returns the magnitude in groups of digits, the least significant first, without zero groups at the end.
func decimalGroups(words []uint32) []uint64 {
	pairs := trimPairs(pairUp(words))
	var groups []uint64
	for len(pairs) > 0 {
		rest := uint64(0)
		for i := len(pairs) - 1; i >= 0; i-- {
			pairs[i], rest = bits.Div64(rest, pairs[i], group)
		}
		groups = append(groups, rest)
		pairs = trimPairs(pairs)
	}
	return groups
}

// pairUp returns the words two by two, so that a division by a group takes half as many steps.
func pairUp(words []uint32) []uint64 {
	pairs := make([]uint64, (len(words)+1)/2)
	for i, w := range words {
		pairs[i/2] |= uint64(w) << (32 * (i % 2))
	}
	return pairs
}

// trimPairs returns the pairs without the zero pairs at the end.
func trimPairs(pairs []uint64) []uint64 {
	for len(pairs) > 0 && pairs[len(pairs)-1] == 0 {
		pairs = pairs[:len(pairs)-1]
	}
	return pairs
}
