package sample

import "slices"

// IsModel reports whether an assignment, which may be one of more variables than occur, makes all clauses true.
func IsModel(clauses [][]int, in []bool) bool {
	for _, clause := range clauses {
		holds := false
		for _, lit := range clause {
			holds = holds || lit > 0 && in[lit-1] || lit < 0 && !in[-lit-1]
		}
		if !holds {
			return false
		}
	}
	return true
}

// IsSameList reports whether two lists of clauses are equal.
func IsSameList(a, b [][]int) bool {
	return slices.EqualFunc(a, b, func(c, d []int) bool { return slices.Equal(c, d) })
}
