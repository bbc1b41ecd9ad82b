// Package formula has what the searches of packages counter and ddnnf have in common: they decide one variable of a formula after the other, and remember the formulas that they have met.
package formula

import (
	"math"
	"slices"
	"unicode/utf8"

	"keyhole/api"
	"keyhole/cnf"
	"keyhole/sat"
)

// After returns the literals that follow from lits in a valid formula by unit propagation, lits included, and the canonical list of what is left of the clauses if they are true, in which each clause has at least two literals. It reports false if there is a conflict.
func After(c api.Cnf, lits []int) (set []int, left [][]int, ok bool) {
	set, conflict, _ := sat.Propagate(c, lits)
	if conflict {
		return nil, nil, false
	}
	values := make([]int, c.Vars+1) // of each variable: its true literal, or 0
	for _, lit := range set {
		values[max(lit, -lit)] = lit
	}
	isTrue := func(lit int) bool { return values[max(lit, -lit)] == lit }
	isFalse := func(lit int) bool { return values[max(lit, -lit)] == -lit }
	for _, clause := range c.Clauses {
		if !slices.ContainsFunc(clause, isTrue) {
			left = append(left, slices.DeleteFunc(slices.Clone(clause), isFalse))
		}
	}
	if len(set) == 0 {
		return nil, left, true
	}
	return set, cnf.Canonical(left), true
}

// Key returns a text that tells a list of clauses from all others.
func Key(clauses [][]int) string {
	var key []byte
	for _, clause := range clauses {
		for _, lit := range clause {
			key = utf8.AppendRune(key, code(lit))
		}
		key = append(key, 0)
	}
	return string(key)
}

// code returns the number of a literal, above 0. It is below those numbers that are no runes, as MaxCnfVar is small.
func code(lit int) rune {
	if lit < 0 {
		return rune(-2 * lit)
	}
	return rune(2*lit + 1)
}

// Size returns the number of clauses and of their literals.
func Size(clauses [][]int) int {
	size := len(clauses)
	for _, clause := range clauses {
		size += len(clause)
	}
	return size
}

// Busiest returns the variable up to keep that occurs most often in the shortest clauses with such a variable, as these clauses are the next ones from which something follows. It returns 0 if there is none.
func Busiest(clauses [][]int, keep int) int {
	counts := make([]int, keep+1)
	least := math.MaxInt
	for _, clause := range clauses {
		if len(clause) > least || len(clause) == 0 || max(clause[0], -clause[0]) > keep {
			continue
		}
		if len(clause) < least {
			least = len(clause)
			clear(counts)
		}
		for _, lit := range clause {
			v := max(lit, -lit)
			if v > keep {
				break
			}
			counts[v]++
		}
	}
	best := 0
	for v, count := range counts {
		if count > counts[best] {
			best = v
		}
	}
	return best
}
