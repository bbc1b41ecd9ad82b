package cnf_test

import (
	"math"
	"math/rand"
	"slices"

	"keyhole/api"
	"keyhole/sample"
)

// raw returns random clauses of numbers from -most to most, sometimes with numbers that are no literals.
func raw(r *rand.Rand, most int) [][]int {
	odd := []int{0, 0, math.MinInt, math.MaxInt, -math.MaxInt, math.MinInt + 2, 20000, -20000, 20001}
	wild := r.Intn(3) == 0
	var clauses [][]int
	for range r.Intn(9) {
		clause := []int{}
		for range r.Intn(5) {
			lit := r.Intn(2*most+1) - most
			if wild && r.Intn(2) == 0 {
				lit = odd[r.Intn(len(odd))]
			}
			clause = append(clause, lit)
		}
		clauses = append(clauses, clause)
	}
	if len(clauses) > 0 && r.Intn(3) == 0 {
		twin := slices.Clone(clauses[0])
		slices.Reverse(twin)
		clauses = append(clauses, twin)
	}
	return clauses
}

// literals returns random clauses of literals of the variables from 1 to vars.
func literals(r *rand.Rand, vars, most int) [][]int {
	var clauses [][]int
	for range r.Intn(most + 1) {
		var clause []int
		for range r.Intn(4) {
			if vars > 0 {
				clause = append(clause, (1+r.Intn(vars))*(1-2*r.Intn(2)))
			}
		}
		clauses = append(clauses, clause)
	}
	return clauses
}

// formula returns a random valid formula.
func formula(r *rand.Rand) api.Cnf {
	vars := r.Intn(7)
	return api.Cnf{Vars: vars, Keep: r.Intn(vars + 1), Clauses: canonicalModel(literals(r, vars, 8))}
}

// disturb changes something of a formula.
func disturb(r *rand.Rand, c *api.Cnf) {
	if len(c.Clauses) == 0 || r.Intn(4) == 0 {
		*[]*int{&c.Vars, &c.Keep}[r.Intn(2)] += []int{-1, 1, -3, 20000}[r.Intn(4)]
		return
	}
	i := r.Intn(len(c.Clauses))
	switch r.Intn(5) {
	case 0:
		j := r.Intn(len(c.Clauses))
		c.Clauses[i], c.Clauses[j] = c.Clauses[j], c.Clauses[i]
	case 1:
		c.Clauses = slices.Insert(c.Clauses, i, slices.Clone(c.Clauses[i]))
	case 2:
		c.Clauses = slices.Delete(c.Clauses, i, i+1)
	default:
		disturbClause(r, c.Clauses[i])
	}
}

func disturbClause(r *rand.Rand, clause []int) {
	if len(clause) == 0 {
		return
	}
	i, j := r.Intn(len(clause)), r.Intn(len(clause))
	switch r.Intn(5) {
	case 0:
		clause[i] = -clause[i]
	case 1:
		clause[i], clause[j] = clause[j], clause[i]
	case 2:
		clause[i] = clause[j]
	case 3:
		clause[i] = -clause[j]
	default:
		clause[i] += r.Intn(3) - 1
	}
}

// diagram returns a random valid diagram with values that are drawn, over a few of its variables.
func diagram(r *rand.Rand, vars int, draw func() int) api.Mtbdd {
	w := sample.World{Vars: vars}
	for v := range vars {
		if r.Intn(4) > 0 {
			w.Over = append(w.Over, v)
		}
	}
	return sample.Reduced(w.Vars, w.Over, sample.Function(w, r.Intn, draw))
}

// words returns random words of a width.
func words(r *rand.Rand, count, width int) [][]bool {
	var list [][]bool
	for range count {
		word := make([]bool, width)
		for k := range word {
			word[k] = r.Intn(2) == 0
		}
		list = append(list, word)
	}
	return list
}
