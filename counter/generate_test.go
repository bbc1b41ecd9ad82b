package counter_test

import (
	"math/rand"
	"slices"
	"testing"

	"keyhole/api"
	"keyhole/cnf"
	"keyhole/sample"
)

// made returns the formula with clauses, which are in any order.
func made(vars, keep int, clauses ...[]int) api.Cnf {
	c, code := cnf.Make(vars, keep, clauses)
	if code != api.OK {
		panic(code)
	}
	return c
}

// formula returns a random formula of at most so many variables: some of them have units, some fall into components, and some have no model.
func formula(r *rand.Rand, most int) api.Cnf {
	vars := r.Intn(most + 1)
	longest := 1 + r.Intn(4)
	var clauses [][]int
	for range r.Intn((2+r.Intn(4))*vars + 2) {
		size := min(vars, 2+r.Intn(longest))
		if r.Intn(20) == 0 {
			size = min(vars, r.Intn(2))
		}
		clauses = append(clauses, sample.Clause(r.Intn, vars, size))
	}
	return made(vars, r.Intn(vars+1), clauses...)
}

// each calls visit with all formulas of two variables, and with random ones of at most so many.
func each(t *testing.T, random, most int, visit func(r *rand.Rand, c api.Cnf)) {
	t.Helper()
	r := rand.New(rand.NewSource(int64(random)))
	sample.Formulas(func(clauses [][]int) {
		for keep := range 3 {
			visit(r, api.Cnf{Vars: 2, Keep: keep, Clauses: clauses})
		}
	})
	for range random {
		visit(r, formula(r, most))
	}
}

// widened returns a formula with the same projected count and many more variables that are not kept: they divide the clauses, are conjunctions of other variables, or do not matter.
func widened(r *rand.Rand, c api.Cnf, vars int) api.Cnf {
	clauses := slices.Clone(c.Clauses)
	for v := c.Vars + 1; v <= vars; v++ {
		other := func() int { return (1 + r.Intn(max(1, v-1))) * (1 - 2*r.Intn(2)) }
		switch k := r.Intn(4); {
		case k < 2 && len(clauses) > 0:
			i := r.Intn(len(clauses))
			clause := clauses[i]
			half := r.Intn(len(clause) + 1)
			clauses[i] = append([]int{v}, clause[:half]...)
			clauses = append(clauses, append([]int{-v}, clause[half:]...))
		case k == 2 && v > 2:
			a, b := other(), other()
			clauses = append(clauses, []int{-v, a}, []int{-v, b}, []int{v, -a, -b})
		default:
			clauses = append(clauses, []int{v, other()})
		}
	}
	return made(vars, c.Keep, clauses...)
}

// beside returns two formulas without common variables as one: the kept variables of both are the first ones.
func beside(a, b api.Cnf) api.Cnf {
	keep := a.Keep + b.Keep
	number := func(v, kept, keptBefore, othersBefore int) int {
		if v <= kept {
			return v + keptBefore
		}
		return keep + othersBefore + v - kept
	}
	rename := func(clauses [][]int, number func(v int) int) [][]int {
		var renamed [][]int
		for _, clause := range clauses {
			var own []int
			for _, lit := range clause {
				if lit < 0 {
					own = append(own, -number(-lit))
				} else {
					own = append(own, number(lit))
				}
			}
			renamed = append(renamed, own)
		}
		return renamed
	}
	first := rename(a.Clauses, func(v int) int { return number(v, a.Keep, 0, 0) })
	second := rename(b.Clauses, func(v int) int { return number(v, b.Keep, a.Keep, a.Vars-a.Keep) })
	return made(a.Vars+b.Vars, keep, append(first, second...)...)
}

// parities returns a formula of random parities of so many variables each that hold for an assignment.
func parities(r *rand.Rand, vars, count, width int) api.Cnf {
	truth := r.Perm(vars)
	var clauses [][]int
	for range count {
		odd := 0
		var own []int
		for _, v := range r.Perm(vars)[:width] {
			own = append(own, v+1)
			odd = (odd + truth[v]) % 2
		}
		clauses = append(clauses, sample.Parity(odd, own...)...)
	}
	return made(vars, vars, clauses...)
}
