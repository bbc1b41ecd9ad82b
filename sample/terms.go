// Package sample makes terms, steps, flat programs, policies and diagrams for the tests of the layers that work on them, and says
// what the models of formulas are. It is no layer, and no layer uses it.
package sample

import "keyhole/api"

// Lit returns the term of a number.
func Lit(n int) api.Term { return api.Term{N: n} }

// Ref returns the term of a variable.
func Ref(i int) api.Term { return api.Term{Op: api.OpRef, N: i} }

// Op returns a term with an operator.
func Op(o api.Op, kids ...api.Term) api.Term { return api.Term{Op: o, Kids: kids} }

// Set returns an assignment.
func Set(v int, t api.Term) api.Step { return api.Step{Do: api.Assign, Var: v, Term: t} }

// Output returns an output.
func Output(t api.Term) api.Step { return api.Step{Do: api.Output, Term: t} }

// Wait returns a step with nothing but a cost.
func Wait(cost int) api.Step { return api.Step{Do: api.Wait, Cost: cost} }

// Release returns the release of a hatch to a variable.
func Release(v, hatch int) api.Step { return api.Step{Do: api.Release, Var: v, N: hatch} }

// If returns a branch.
func If(t api.Term, then, other []api.Step) api.Step {
	return api.Step{Do: api.If, Term: t, Then: then, Else: other}
}

// Loop returns a loop.
func Loop(rounds int, t api.Term, then ...api.Step) api.Step {
	return api.Step{Do: api.Loop, N: rounds, Term: t, Then: then}
}

// Settle returns the step that lets the time rise to one of the bounds.
func Settle(cost int, bounds ...int) api.Step {
	return api.Step{Do: api.Settle, Cost: cost, Bounds: bounds}
}

// Costly returns the step with a cost.
func Costly(cost int, s api.Step) api.Step {
	s.Cost = cost
	return s
}
