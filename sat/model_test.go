package sat_test

import (
	"slices"

	"keyhole/api"
	"keyhole/sample"
)

var (
	isModel   = sample.IsModel
	isClauses = sample.IsSameList
)

// models returns all models in their order.
func models(vars int, clauses [][]int) [][]bool {
	var all [][]bool
	sample.Assignments(vars, func(in []bool) {
		if isModel(clauses, in) {
			all = append(all, in)
		}
	})
	return all
}

// propagateModel returns the set of unit propagation by its definition, ordered by variables, and whether there is a conflict.
func propagateModel(clauses [][]int, lits []int) ([]int, bool) {
	set := map[int]bool{}
	for _, lit := range lits {
		set[lit] = true
	}
	for size := -1; size < len(set); {
		size = len(set)
		for _, clause := range clauses {
			for _, lit := range clause {
				follows := true
				for _, other := range clause {
					follows = follows && (other == lit || set[-other])
				}
				if follows {
					set[lit] = true
				}
			}
		}
	}
	if slices.ContainsFunc(clauses, func(clause []int) bool { return len(clause) == 0 }) {
		return nil, true
	}
	var sorted []int
	for lit := range set {
		if set[-lit] {
			return nil, true
		}
		at := 0
		for at < len(sorted) && max(sorted[at], -sorted[at]) < max(lit, -lit) {
			at++
		}
		sorted = slices.Insert(sorted, at, lit)
	}
	return sorted, false
}

// isLemma reports whether a clause has the form that lemmas have.
func isLemma(clause []int, vars int) bool {
	for i, lit := range clause {
		if lit == 0 || lit < -vars || lit > vars || i > 0 && max(lit, -lit) <= max(clause[i-1], -clause[i-1]) {
			return false
		}
	}
	return true
}

// refutesModel reports whether lemmas are a refutation, by the definition.
func refutesModel(c api.Cnf, lemmas [][]int) bool {
	known := slices.Clone(c.Clauses)
	for _, lemma := range lemmas {
		if !isLemma(lemma, c.Vars) {
			return false
		}
		var negations []int
		for _, lit := range lemma {
			negations = append(negations, -lit)
		}
		if _, conflict := propagateModel(known, negations); !conflict {
			return false
		}
		known = append(known, lemma)
	}
	return len(lemmas) > 0 && len(lemmas[len(lemmas)-1]) == 0
}

// backboneModel returns the literals that all models have in common.
func backboneModel(vars int, all [][]bool) []int {
	var common []int
	for v := 1; v <= vars; v++ {
		for _, lit := range []int{v, -v} {
			if !slices.ContainsFunc(all, func(in []bool) bool { return in[v-1] != (lit > 0) }) {
				common = append(common, lit)
			}
		}
	}
	return common
}

// coreModel drops clauses one after the other, as long as hasModel says that the others have no model.
func coreModel(clauses [][]int, hasModel func(clauses [][]int) bool) []int {
	left := sample.Range(0, len(clauses), 1)
	for i := range clauses {
		var others [][]int
		for _, j := range left {
			if j != i {
				others = append(others, clauses[j])
			}
		}
		if !hasModel(others) {
			left = slices.DeleteFunc(left, func(j int) bool { return j == i })
		}
	}
	return left
}
