package interp

import (
	"slices"

	"keyhole/api"
)

// frame has the variables that are visible, by their names.
type frame map[string]variable

// locate returns the variable of which a place is a component, the shape of the component, and its first scalar.
func (f frame) locate(place api.Expr) (v variable, s *shape, at int) {
	if place.Op == api.OpName {
		v = f[place.Name]
		return v, v.shape, 0
	}
	v, s, at = f.locate(place.Kids[0])
	i := 0
	if place.Op == api.OpField {
		i = slices.Index(s.names, place.Name)
	} else {
		i = clamp(f.value(place.Kids[1]), 0, len(s.of)-1)
	}
	return v, s.of[i], at + s.starts[i]
}

// store stores the values in a place.
func (f frame) store(place api.Expr, values []int) {
	v, s, at := f.locate(place)
	copy(v.values[at:at+s.size], clamped(values, v.scalars[at:]))
}

// values returns the scalars of the value of an expression. They may be those of a variable itself.
func (f frame) values(e api.Expr) []int {
	if isPlace(e) {
		v, s, at := f.locate(e)
		return v.values[at : at+s.size]
	}
	return []int{f.value(e)}
}

func isPlace(e api.Expr) bool {
	return e.Op == api.OpName || e.Op == api.OpField || e.Op == api.OpIndex
}

// value returns the value of an expression with a scalar type.
func (f frame) value(e api.Expr) int {
	switch e.Op {
	case api.OpLit:
		return e.N
	case api.OpTrue, api.OpFalse:
		return truth(e.Op == api.OpTrue)
	case api.OpName, api.OpField, api.OpIndex:
		v, _, at := f.locate(e)
		return v.values[at]
	case api.OpNeg:
		return -f.value(e.Kids[0])
	case api.OpNot:
		return 1 - f.value(e.Kids[0])
	case api.OpCond:
		// An operand that is not chosen cannot be told from one that is not evaluated.
		if f.value(e.Kids[0]) == 1 {
			return f.value(e.Kids[1])
		}
		return f.value(e.Kids[2])
	}
	return operate(e.Op, f.value(e.Kids[0]), f.value(e.Kids[1]))
}

// operate returns what an operator makes of two operands.
func operate(op api.Op, a, b int) int {
	switch op {
	case api.OpAdd:
		return a + b
	case api.OpSub:
		return a - b
	case api.OpMul:
		return a * b
	case api.OpDiv:
		return quotient(a, b)
	case api.OpMod:
		return remainder(a, b)
	case api.OpEq:
		return truth(a == b)
	case api.OpNe:
		return truth(a != b)
	case api.OpLt:
		return truth(a < b)
	case api.OpLe:
		return truth(a <= b)
	case api.OpGt:
		return truth(a > b)
	case api.OpGe:
		return truth(a >= b)
	case api.OpAnd, api.OpMin:
		return min(a, b)
	}
	return max(a, b) // OpOr, OpMax
}

func truth(holds bool) int {
	if holds {
		return 1
	}
	return 0
}

// remainder returns what is left of a after division by b. It has the sign of b.
func remainder(a, b int) int {
	if b == 0 {
		return 0
	}
	rest := a % b
	if rest != 0 && (rest < 0) != (b < 0) {
		rest += b
	}
	return rest
}

// quotient returns the greatest integer that is at most a divided by b.
func quotient(a, b int) int {
	if b == 0 {
		return 0
	}
	return (a - remainder(a, b)) / b
}
