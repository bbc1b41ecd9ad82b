package sample

import "slices"

// IsModel reports whether an assignment, which may be one of more variables than occur, makes all clauses true.
func IsModel(clauses [][]int, in []bool) bool {
	for _, clause := range clauses {
		holds := false
		for _, lit := range clause {
			holds = holds || lit > 0 && in[lit-1] || lit < 0 && !in[-lit-1]
		}
		if !holds {
			return false
		}
	}
	return true
}

// IsSameList reports whether two lists of clauses are equal.
func IsSameList(a, b [][]int) bool {
	return slices.EqualFunc(a, b, func(c, d []int) bool { return slices.Equal(c, d) })
}

// Clause returns a random clause of so many different variables out of those from 1 to vars.
func Clause(intn func(n int) int, vars, size int) []int {
	var lits []int
	for len(lits) < size {
		lit := (1 + intn(vars)) * (1 - 2*intn(2))
		if !slices.Contains(lits, lit) && !slices.Contains(lits, -lit) {
			lits = append(lits, lit)
		}
	}
	return lits
}

// Parity returns the clauses that say whether the number of true variables among some is odd.
func Parity(odd int, vars ...int) [][]int {
	var clauses [][]int
	Assignments(len(vars), func(in []bool) {
		sum := 0
		var clause []int
		for i, v := range in {
			lit := vars[i]
			if v {
				sum++
				lit = -lit
			}
			clause = append(clause, lit)
		}
		if sum%2 != odd {
			clauses = append(clauses, clause)
		}
	})
	return clauses
}

// Sums returns the clauses that the number of true variables from 1 to count, which is at least 1, is odd. A further variable for each of them says whether the number up to there is odd: so it matters little which ones are true.
func Sums(count int) [][]int {
	clauses := append(Parity(0, 1, count+1), []int{2 * count})
	for v := 2; v <= count; v++ {
		clauses = append(clauses, Parity(0, count+v-1, v, count+v)...)
	}
	return clauses
}

// Pigeons returns the clauses that so many pigeons have each a hole of their own among others: the pigeon p has the hole h if the variable p*holes + h + 1 is true.
func Pigeons(count, holes int) [][]int {
	in := func(p, h int) int { return p*holes + h + 1 }
	var clauses [][]int
	for p := range count {
		var some []int
		for h := range holes {
			some = append(some, in(p, h))
			for q := range p {
				clauses = append(clauses, []int{-in(p, h), -in(q, h)})
			}
		}
		clauses = append(clauses, some)
	}
	return clauses
}

// Everything returns all clauses that have all variables from 1 to vars.
func Everything(vars int) [][]int {
	var clauses [][]int
	Assignments(vars, func(in []bool) {
		var clause []int
		for i, v := range in {
			clause = append(clause, i+1)
			if v {
				clause[i] = -i - 1
			}
		}
		clauses = append(clauses, clause)
	})
	return clauses
}

// Formulas calls visit with all canonical lists of clauses of two variables.
func Formulas(visit func(clauses [][]int)) {
	all := [][]int{{}, {-1}, {-1, -2}, {-1, 2}, {1}, {1, -2}, {1, 2}, {-2}, {2}}
	Assignments(len(all), func(in []bool) {
		var clauses [][]int
		for i, clause := range all {
			if in[i] {
				clauses = append(clauses, clause)
			}
		}
		visit(clauses)
	})
}
