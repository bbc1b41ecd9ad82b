package rational

import (
	"strconv"
	"strings"

	"keyhole/api"
	"keyhole/integer"
)

const (
	// groupDigits is the number of digits of a group that is converted at once, and group is the number of its values.
	groupDigits = 18
	group       = 1_000_000_000_000_000_000
)

// Parse returns the fraction that s denotes.
func Parse(s string) (api.Rat, api.Code) {
	if len(s) > api.MaxText {
		return api.Rat{}, api.ErrLong
	}
	above, below, divided := strings.Cut(s, "/")
	if !divided {
		below = "1"
	}
	above, negative := strings.CutPrefix(above, "-")
	if !isNumber(above) || !isNumber(below) || negative && above == "0" {
		return api.Rat{}, api.ErrSyntax
	}
	num := number(above)
	if negative {
		num = integer.Neg(num)
	}
	return New(num, number(below))
}

// isNumber reports whether s is digits without leading zeros.
func isNumber(s string) bool {
	return strings.Trim(s, "0123456789") == "" && (s == "0" || s != "" && s[0] != '0')
}

// number returns the number with these digits. (There may be more of them than layer 1 parses.)
func number(digits string) api.Int {
	x := api.Int{}
	scale := integer.Of(group)
	for digits != "" {
		// Only the first group may be shorter than the others.
		length := (len(digits)-1)%groupDigits + 1
		value, _ := strconv.Atoi(digits[:length])
		x = integer.Add(integer.Mul(x, scale), integer.Of(value))
		digits = digits[length:]
	}
	return x
}

// Text returns the decimal text of x.
func Text(x api.Rat) string {
	x = Clean(x)
	if isOne(x.Den) {
		return integer.Text(x.Num)
	}
	return integer.Text(x.Num) + "/" + integer.Text(x.Den)
}
