package flat

import "keyhole/api"

// anyOf returns a function that reports whether a number is the index of one of the variables.
func anyOf(vars []api.Var) func(i int) bool {
	return func(i int) bool { return i >= 0 && i < len(vars) }
}

// checkTerm returns the code of the first error of a term that may refer to the variables for which mayRefer holds.
func checkTerm(vars []api.Var, t api.Term, mayRefer func(i int) bool) api.Code {
	if !isTerm(t, mayRefer) {
		return api.ErrArgument
	}
	if _, ok := rangeOf(vars, t); !ok {
		return api.ErrRange
	}
	return api.OK
}

// isTerm reports whether t has the form of a term that refers only to variables for which mayRefer holds.
func isTerm(t api.Term, mayRefer func(i int) bool) bool {
	least, most := arity(t.Op)
	if len(t.Kids) < least || len(t.Kids) > most {
		return false
	}
	for _, kid := range t.Kids {
		if !isTerm(kid, mayRefer) {
			return false
		}
	}
	switch t.Op {
	case api.OpLit:
		return true
	case api.OpRef:
		return mayRefer(t.N)
	}
	return t.N == 0
}

// arity returns the least and the greatest number of kids of an operator. There is no such number if terms do not have it.
func arity(op api.Op) (least, most int) {
	switch op {
	case api.OpLit, api.OpRef:
		return 0, 0
	case api.OpNeg, api.OpNot:
		return 1, 1
	case api.OpAdd, api.OpSub, api.OpMul, api.OpDiv, api.OpMod, api.OpEq, api.OpNe, api.OpLt, api.OpLe, api.OpGt, api.OpGe,
		api.OpAnd, api.OpOr, api.OpMin, api.OpMax:
		return 2, 2
	case api.OpCond:
		return 3, 3
	case api.OpSelect:
		return 2, 1 + api.MaxScalars
	}
	return 1, 0
}

// interval is a range of integers. Its ends are so small that no operation on them leaves the range of an int.
type interval struct {
	low, high int
}

// hull returns the least interval with all the numbers.
func hull(first int, others ...int) interval {
	r := interval{first, first}
	for _, n := range others {
		r.low, r.high = min(r.low, n), max(r.high, n)
	}
	return r
}

// rangeOf returns the range of a term, unless the range of a node of it is too wide. The bounds of the variables that it
// refers to must not be.
func rangeOf(vars []api.Var, t api.Term) (interval, bool) {
	var first, others interval
	for i, kid := range t.Kids {
		r, ok := rangeOf(vars, kid)
		switch {
		case !ok:
			return interval{}, false
		case i == 0:
			first = r
		case i == 1:
			others = r
		default:
			others = hull(r.low, r.high, others.low, others.high)
		}
	}
	var result interval
	switch t.Op {
	case api.OpLit:
		result = interval{t.N, t.N}
	case api.OpRef:
		result = interval{vars[t.N].Low, vars[t.N].High}
	default:
		result = results(t.Op, first, others)
	}
	return result, result.low >= -api.MaxInt && result.high <= api.MaxInt
}

// results returns the range of what an operator makes of a number of the range a and numbers of the range b.
func results(op api.Op, a, b interval) interval {
	switch op {
	case api.OpNeg:
		return interval{-a.high, -a.low}
	case api.OpAdd:
		return interval{a.low + b.low, a.high + b.high}
	case api.OpSub:
		return interval{a.low - b.high, a.high - b.low}
	case api.OpMul:
		return hull(a.low*b.low, a.low*b.high, a.high*b.low, a.high*b.high)
	case api.OpDiv:
		return quotients(a, b)
	case api.OpMod:
		// A remainder has the sign of the divisor.
		return interval{min(b.low+1, 0), max(b.high-1, 0)}
	case api.OpMin:
		return interval{min(a.low, b.low), min(a.high, b.high)}
	case api.OpMax:
		return interval{max(a.low, b.low), max(a.high, b.high)}
	case api.OpCond, api.OpSelect:
		return b
	}
	return interval{0, 1}
}

// quotients returns the range of a divided by b. The divisor 0 gives 0.
func quotients(a, b interval) interval {
	greatest := max(-a.low, a.high)
	if a.low >= 0 && b.low >= 0 {
		return interval{0, greatest}
	}
	return interval{-greatest, greatest}
}
