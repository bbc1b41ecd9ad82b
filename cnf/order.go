package cnf

import (
	"cmp"
	"slices"
)

// isLiteral reports whether lit is a literal of a variable from 1 to vars.
func isLiteral(lit, vars int) bool {
	return lit != 0 && lit >= -vars && lit <= vars
}

// isWithin reports whether clauses consist of literals of the variables from 1 to vars.
func isWithin(clauses [][]int, vars int) bool {
	for _, clause := range clauses {
		for _, lit := range clause {
			if !isLiteral(lit, vars) {
				return false
			}
		}
	}
	return true
}

// magnitude returns the variable of a literal. It is that of raw numbers, too: the least int has none among the ints.
func magnitude(lit int) uint {
	if lit < 0 {
		return -uint(lit)
	}
	return uint(lit)
}

// compareLiterals compares by literal order.
func compareLiterals(a, b int) int {
	return cmp.Or(cmp.Compare(magnitude(a), magnitude(b)), cmp.Compare(a, b))
}

// compareClauses compares by clause order.
func compareClauses(a, b []int) int {
	return slices.CompareFunc(a, b, compareLiterals)
}

// isAscending reports whether each element of a list comes after the one before it.
func isAscending[E any](list []E, compare func(a, b E) int) bool {
	for i := range list {
		if i > 0 && compare(list[i-1], list[i]) >= 0 {
			return false
		}
	}
	return true
}

// isCanonical reports whether clauses that consist of literals are a canonical list.
func isCanonical(clauses [][]int) bool {
	for _, clause := range clauses {
		if !isAscending(clause, compareLiterals) || isTautology(clause) {
			return false
		}
	}
	return isAscending(clauses, compareClauses)
}

// isTautology reports whether a clause in literal order, in which nothing is repeated, contains a number and its negative.
func isTautology(clause []int) bool {
	for i := range clause {
		if i > 0 && clause[i-1] == -clause[i] {
			return true
		}
	}
	return false
}

// canonical returns the canonical form of clauses of which only some numbers stay.
func canonical(clauses [][]int, stays func(lit int) bool) [][]int {
	var list [][]int
	for _, clause := range clauses {
		var own []int
		for _, lit := range clause {
			if stays(lit) {
				own = append(own, lit)
			}
		}
		slices.SortFunc(own, compareLiterals)
		own = slices.Compact(own)
		if !isTautology(own) {
			list = append(list, own)
		}
	}
	slices.SortFunc(list, compareClauses)
	return slices.CompactFunc(list, slices.Equal)
}
