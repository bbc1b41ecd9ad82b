package typecheck

import (
	"slices"

	"keyhole/api"
)

// interval is a range of integers. Its ends are so small that no operation on them leaves the range of an int.
type interval struct {
	low, high int
}

// rangeOf returns the range of what an operator with an int as its result makes of ints, of which OpCond has only those that
// it chooses from.
func rangeOf(op api.Op, kids []api.Type) interval {
	a, b := bounds(kids[0]), bounds(kids[len(kids)-1])
	switch op {
	case api.OpNeg:
		return interval{-a.high, -a.low}
	case api.OpAdd:
		return interval{a.low + b.low, a.high + b.high}
	case api.OpSub:
		return interval{a.low - b.high, a.high - b.low}
	case api.OpMul:
		return hull(a.low*b.low, a.low*b.high, a.high*b.low, a.high*b.high)
	case api.OpDiv:
		return quotients(a, b)
	case api.OpMod:
		return remainders(b)
	case api.OpMin:
		return interval{min(a.low, b.low), min(a.high, b.high)}
	case api.OpMax:
		return interval{max(a.low, b.low), max(a.high, b.high)}
	}
	return hull(a.low, a.high, b.low, b.high)
}

func bounds(t api.Type) interval {
	return interval{t.Low, t.High}
}

// hull returns the least interval with all the numbers.
func hull(list ...int) interval {
	return interval{slices.Min(list), slices.Max(list)}
}

// quotients returns the range of a divided by b. The divisor 0 gives 0.
func quotients(a, b interval) interval {
	greatest := max(-a.low, a.high)
	if a.low >= 0 && b.low >= 0 {
		return interval{0, greatest}
	}
	return interval{-greatest, greatest}
}

// remainders returns the range of remainders of divisions by b. They have the sign of the divisor.
func remainders(b interval) interval {
	return interval{min(b.low+1, 0), max(b.high-1, 0)}
}
