package mtbdd

import "keyhole/api"

// The operations of Apply.
const (
	Plus = iota
	Minus
	Times
	Over // the division of the language
	Modulo
	Least
	Greatest
	Less  // 1 if a < b, otherwise 0
	Equal // 1 if a = b, otherwise 0
	Operations
)

// operations returns the functions that make the values of Apply, by their numbers. Only Plus, Minus and Times can leave the range of values, and they are the furthest away where both values are the least or the greatest ones.
func operations() []func(x, y int) int {
	return []func(x, y int) int{
		Plus:     func(x, y int) int { return x + y },
		Minus:    func(x, y int) int { return x - y },
		Times:    times,
		Over:     over,
		Modulo:   modulo,
		Least:    func(x, y int) int { return min(x, y) },
		Greatest: func(x, y int) int { return max(x, y) },
		Less:     func(x, y int) int { return number(x < y) },
		Equal:    func(x, y int) int { return number(x == y) },
	}
}

// number returns 1 for true and 0 for false.
func number(v bool) int {
	if v {
		return 1
	}
	return 0
}

// times returns x * y; a number out of range stands for all others, as not every product has 64 bits.
func times(x, y int) int {
	if y != 0 && max(x, -x) > api.MaxValue/max(y, -y) {
		return api.MaxValue + 1
	}
	return x * y
}

// over returns the floor of x / y, or 0 if y is 0.
func over(x, y int) int {
	if y == 0 {
		return 0
	}
	if x%y != 0 && (x < 0) != (y < 0) {
		return x/y - 1
	}
	return x / y
}

// modulo returns what the floor of x / y leaves of x, or 0 if y is 0.
func modulo(x, y int) int {
	if y == 0 {
		return 0
	}
	return x - y*over(x, y)
}
