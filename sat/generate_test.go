package sat_test

import (
	"math/rand"
	"testing"

	"keyhole/api"
	"keyhole/cnf"
	"keyhole/sample"
)

// made returns the valid formula with clauses.
func made(vars int, clauses ...[]int) api.Cnf {
	c, code := cnf.Make(vars, 0, clauses)
	if code != api.OK {
		panic(code)
	}
	return c
}

// first is the formula of the chapter's first example, and none that of its second one, which has no model.
func first() api.Cnf { return made(2, []int{-1, 2}, []int{1, -2}, []int{1, 2}) }
func none() api.Cnf  { return made(2, []int{-1, 2}, []int{1, -2}, []int{1, 2}, []int{-1, -2}) }

// all calls visit with every formula of two variables.
func all(visit func(c api.Cnf)) {
	sample.Formulas(func(clauses [][]int) { visit(api.Cnf{Vars: 2, Clauses: clauses}) })
}

// clause returns a random clause of so many different variables.
func clause(r *rand.Rand, vars, size int) []int {
	return sample.Clause(r.Intn, vars, size)
}

// formula returns a random formula of at most so many variables, about as often with a model as without.
func formula(r *rand.Rand, most int) api.Cnf {
	vars := 1 + r.Intn(most)
	if r.Intn(3) == 0 && vars > 4 {
		var clauses [][]int
		for range vars * (4 + r.Intn(5)) {
			clauses = append(clauses, clause(r, vars, 3))
		}
		return made(vars, clauses...)
	}
	var clauses [][]int
	for range r.Intn(5*vars + 3) {
		size := min(vars, 2+r.Intn(2))
		if r.Intn(12) == 0 {
			size = min(vars, r.Intn(6))
		}
		clauses = append(clauses, clause(r, vars, size))
	}
	c := made(vars, clauses...)
	c.Keep = r.Intn(vars + 1)
	return c
}

// each calls visit with all small formulas, and with random ones.
func each(t *testing.T, random, most int, visit func(r *rand.Rand, c api.Cnf)) {
	t.Helper()
	r := rand.New(rand.NewSource(int64(random)))
	all(func(c api.Cnf) { visit(r, c) })
	for range random {
		visit(r, formula(r, most))
	}
}

// parities returns a formula of random parities of so many variables each, which hold for an assignment, or mostly for none.
func parities(r *rand.Rand, vars, count, width int, hasModel bool) api.Cnf {
	truth := make([]int, vars+1)
	for v := range truth {
		truth[v] = r.Intn(2)
	}
	var clauses [][]int
	for range count {
		odd := 0
		var own []int
		for _, v := range r.Perm(vars)[:width] {
			own = append(own, v+1)
			odd = (odd + truth[v+1]) % 2
		}
		if !hasModel {
			odd = r.Intn(2)
		}
		clauses = append(clauses, sample.Parity(odd, own...)...)
	}
	return made(vars, clauses...)
}

// pigeons returns the formula that so many pigeons have each a hole of their own among others.
func pigeons(count, holes int) api.Cnf {
	return made(count*holes, sample.Pigeons(count, holes)...)
}
