package cost

import (
	"cmp"

	"keyhole/api"
	"keyhole/syntax"
)

// Expr returns the cost of the evaluation of e.
func Expr(c api.Costs, e api.Expr) (int, api.Code) {
	if code := check(c, e); code != api.OK {
		return 0, code
	}
	return exprCost(c, e), api.OK
}

// Place returns the cost of finding a place that is assigned.
func Place(c api.Costs, place api.Expr) (int, api.Code) {
	if code := cmp.Or(check(c, place), checkPlace(place)); code != api.OK {
		return 0, code
	}
	return placeCost(c, place), api.OK
}

// Set returns the cost of an assignment of a value that consists of so many scalars.
func Set(c api.Costs, place, value api.Expr, scalars int) (int, api.Code) {
	if code := cmp.Or(check(c, place, value), checkPlace(place), checkScalars(scalars)); code != api.OK {
		return 0, code
	}
	return c.Assign*scalars + placeCost(c, place) + exprCost(c, value), api.OK
}

// Enter returns the cost of a call before the body of the function: scalars[i] is the number of scalars of args[i].
func Enter(c api.Costs, args []api.Expr, scalars []int) (int, api.Code) {
	code := check(c, args...)
	if code == api.OK && len(scalars) != len(args) {
		code = api.ErrMismatch
	}
	if code = cmp.Or(code, checkScalars(scalars...)); code != api.OK {
		return 0, code
	}
	total := c.Call
	for i, argument := range args {
		total += exprCost(c, argument) + c.Assign*scalars[i]
	}
	return total, api.OK
}

// Leave returns the cost of a call after the body of the function, whose result is value and consists of so many scalars.
func Leave(c api.Costs, place, value api.Expr, scalars int) (int, api.Code) {
	// The result is assigned to the place as any other value is.
	return Set(c, place, value, scalars)
}

// Release returns the cost of a release.
func Release(c api.Costs, place api.Expr) (int, api.Code) {
	found, code := Place(c, place)
	if code != api.OK {
		return 0, code
	}
	return c.Release + c.Assign + found, api.OK
}

// Output returns the cost of an output.
func Output(c api.Costs, value api.Expr) (int, api.Code) {
	return more(c.Output, c, value)
}

// If returns the cost of the condition of an if.
func If(c api.Costs, value api.Expr) (int, api.Code) {
	return more(c.Branch, c, value)
}

// While returns the cost of one evaluation of the condition of a while.
func While(c api.Costs, value api.Expr) (int, api.Code) {
	return more(c.Loop, c, value)
}

// more returns the cost of a statement that costs so much more than its value.
func more(entry int, c api.Costs, value api.Expr) (int, api.Code) {
	evaluated, code := Expr(c, value)
	if code != api.OK {
		return 0, code
	}
	return entry + evaluated, api.OK
}

// check returns the code of the first error of a model and expressions.
func check(c api.Costs, list ...api.Expr) api.Code {
	if code := Check(c); code != api.OK {
		return code
	}
	for _, e := range list {
		if code := syntax.CheckExpr(e); code != api.OK {
			return code
		}
	}
	return api.OK
}

// checkPlace returns OK if a well-formed expression is a place.
func checkPlace(e api.Expr) api.Code {
	switch e.Op {
	case api.OpName, api.OpField, api.OpIndex:
		return api.OK
	}
	return api.ErrArgument
}

// checkScalars returns OK if all elements are numbers of scalars.
func checkScalars(list ...int) api.Code {
	for _, scalars := range list {
		if scalars < 0 || scalars > api.MaxScalars {
			return api.ErrRange
		}
	}
	return api.OK
}

// exprCost returns the cost of a well-formed expression.
func exprCost(c api.Costs, e api.Expr) int {
	total := 0
	var add func(e api.Expr)
	add = func(e api.Expr) {
		total += opCost(c, e.Op)
		for _, kid := range e.Kids {
			add(kid)
		}
	}
	add(e)
	return total
}

// placeCost returns the cost of a place that is assigned. It begins with one name, which is not loaded.
func placeCost(c api.Costs, place api.Expr) int {
	return exprCost(c, place) - c.Load
}

// opCost returns the cost of a node of an expression with the operator.
func opCost(c api.Costs, op api.Op) int {
	switch op {
	case api.OpName:
		return c.Load
	case api.OpIndex:
		return c.Index
	case api.OpNeg, api.OpAdd, api.OpSub, api.OpMin, api.OpMax:
		return c.Arith
	case api.OpMul:
		return c.Multiply
	case api.OpDiv, api.OpMod:
		return c.Divide
	case api.OpEq, api.OpNe, api.OpLt, api.OpLe, api.OpGt, api.OpGe:
		return c.Compare
	case api.OpNot, api.OpAnd, api.OpOr, api.OpCond:
		return c.Logic
	}
	return 0
}
