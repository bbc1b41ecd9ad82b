package flat

import "keyhole/api"

// valueOf returns the value of a term that is without errors, where the variables have the values.
func valueOf(values []int, t api.Term) int {
	kid := func(i int) int { return valueOf(values, t.Kids[i]) }
	switch t.Op {
	case api.OpLit:
		return t.N
	case api.OpRef:
		return values[t.N]
	case api.OpNeg:
		return -kid(0)
	case api.OpNot:
		return truth(kid(0) == 0)
	case api.OpCond:
		// A kid that is not chosen cannot be told from one that is not evaluated.
		if kid(0) != 0 {
			return kid(1)
		}
		return kid(2)
	case api.OpSelect:
		return kid(1 + clamp(kid(0), 0, len(t.Kids)-2))
	}
	return operate(t.Op, kid(0), kid(1))
}

// operate returns what an operator makes of the values of two kids.
func operate(op api.Op, a, b int) int {
	switch op {
	case api.OpAdd:
		return a + b
	case api.OpSub:
		return a - b
	case api.OpMul:
		return a * b
	case api.OpDiv:
		return quotient(a, b)
	case api.OpMod:
		return remainder(a, b)
	case api.OpEq:
		return truth(a == b)
	case api.OpNe:
		return truth(a != b)
	case api.OpLt:
		return truth(a < b)
	case api.OpLe:
		return truth(a <= b)
	case api.OpGt:
		return truth(a > b)
	case api.OpGe:
		return truth(a >= b)
	case api.OpAnd:
		return truth(a != 0 && b != 0)
	case api.OpOr:
		return truth(a != 0 || b != 0)
	case api.OpMin:
		return min(a, b)
	}
	return max(a, b) // OpMax
}

func truth(holds bool) int {
	if holds {
		return 1
	}
	return 0
}

func clamp(n, low, high int) int {
	return min(max(n, low), high)
}

// remainder returns what is left of a after division by b. It has the sign of b.
func remainder(a, b int) int {
	if b == 0 {
		return 0
	}
	rest := a % b
	if rest != 0 && (rest < 0) != (b < 0) {
		rest += b
	}
	return rest
}

// quotient returns the greatest integer that is at most a divided by b.
func quotient(a, b int) int {
	if b == 0 {
		return 0
	}
	return (a - remainder(a, b)) / b
}
