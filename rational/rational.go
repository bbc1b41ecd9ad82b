// Package rational is layer 2, fractions of any size: see shared/doc/02-rational.md.
package rational

import (
	"keyhole/api"
	"keyhole/integer"
)

// Valid reports whether x is in canonical form.
func Valid(x api.Rat) bool {
	return integer.Valid(x.Num) && integer.Valid(x.Den) && integer.Sign(x.Den) > 0 && isOne(integer.Gcd(x.Num, x.Den))
}

// isOne reports whether x is 1.
func isOne(x api.Int) bool {
	n, small := integer.Small(x)
	return small && n == 1
}

// Clean returns the canonical form of x.
func Clean(x api.Rat) api.Rat {
	return reduced(ratio(x))
}

// ratio returns a numerator and a denominator above 0 whose quotient is the value of x. They may share memory with x.
func ratio(x api.Rat) (num, den api.Int) {
	switch integer.Sign(x.Den) {
	case 0:
		return api.Int{}, integer.Of(1)
	case -1:
		return integer.Neg(x.Num), integer.Neg(x.Den)
	}
	return x.Num, x.Den
}

// reduced returns num / den in canonical form; den is above 0.
func reduced(num, den api.Int) api.Rat {
	divisor := integer.Gcd(num, den)
	return api.Rat{Num: quotient(num, divisor), Den: quotient(den, divisor)}
}

// quotient returns x / y, rounded down; y is not 0.
func quotient(x, y api.Int) api.Int {
	q, _, _ := integer.Divide(x, y)
	return q
}

// New returns num / den.
func New(num, den api.Int) (api.Rat, api.Code) {
	if integer.Sign(den) == 0 {
		return api.Rat{}, api.ErrRange
	}
	return Clean(api.Rat{Num: num, Den: den}), api.OK
}

// Of returns num / den.
func Of(num, den int) (api.Rat, api.Code) {
	return New(integer.Of(num), integer.Of(den))
}

// Sign returns -1, 0 or 1.
func Sign(x api.Rat) int {
	return integer.Sign(x.Num) * integer.Sign(x.Den)
}

// Neg returns -x.
func Neg(x api.Rat) api.Rat {
	num, den := ratio(x)
	return reduced(integer.Neg(num), den)
}

// Add returns x + y.
func Add(x, y api.Rat) api.Rat {
	a, b, den := common(x, y)
	return reduced(integer.Add(a, b), den)
}

// Sub returns x - y.
func Sub(x, y api.Rat) api.Rat {
	a, b, den := common(x, y)
	return reduced(integer.Sub(a, b), den)
}

// common returns the numerators of x and y over a common denominator above 0, and this denominator.
func common(x, y api.Rat) (a, b, den api.Int) {
	xNum, xDen := ratio(x)
	yNum, yDen := ratio(y)
	return integer.Mul(xNum, yDen), integer.Mul(yNum, xDen), integer.Mul(xDen, yDen)
}

// Mul returns x * y.
func Mul(x, y api.Rat) api.Rat {
	xNum, xDen := ratio(x)
	yNum, yDen := ratio(y)
	return reduced(integer.Mul(xNum, yNum), integer.Mul(xDen, yDen))
}

// Divide returns x / y.
func Divide(x, y api.Rat) (api.Rat, api.Code) {
	xNum, xDen := ratio(x)
	yNum, yDen := ratio(y)
	return New(integer.Mul(xNum, yDen), integer.Mul(xDen, yNum))
}

// Compare returns -1, 0 or 1 if x is less than, equal to or greater than y.
func Compare(x, y api.Rat) int {
	xNum, xDen := ratio(x)
	yNum, yDen := ratio(y)
	return integer.Compare(integer.Mul(xNum, yDen), integer.Mul(yNum, xDen))
}

// Sum returns the sum of l. The common denominator of the terms so far is their least one; the fraction is reduced only once.
func Sum(l []api.Rat) api.Rat {
	sum, least := api.Int{}, integer.Of(1)
	for _, x := range l {
		num, den := ratio(x)
		divisor := integer.Gcd(least, den)
		sum = integer.Mul(sum, quotient(den, divisor))
		sum = integer.Add(sum, integer.Mul(num, quotient(least, divisor)))
		least = integer.Mul(least, quotient(den, divisor))
	}
	return reduced(sum, least)
}

// Floor returns the greatest integer that is not greater than x.
func Floor(x api.Rat) api.Int {
	return quotient(ratio(x))
}
