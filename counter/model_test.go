package counter_test

import (
	"maps"
	"slices"

	"keyhole/api"
	"keyhole/cnf"
	"keyhole/sample"
)

// countModel returns the projected count of a formula with literals, from all assignments.
func countModel(c api.Cnf, lits []int) int {
	clauses := slices.Clone(c.Clauses)
	for _, lit := range lits {
		clauses = append(clauses, []int{lit})
	}
	met := map[string]bool{}
	sample.Assignments(c.Vars, func(in []bool) {
		if sample.IsModel(clauses, in) {
			met[text(in[:c.Keep])] = true
		}
	})
	return len(met)
}

// text returns a text that tells an assignment from all others of the same variables.
func text(in []bool) string {
	bytes := make([]byte, len(in))
	for i, v := range in {
		if v {
			bytes[i] = 1
		}
	}
	return string(bytes)
}

// componentsModel returns the components by the closure of the relation of connected clauses.
func componentsModel(l [][]int) [][]int {
	related := make([][]bool, len(l))
	for i := range l {
		related[i] = make([]bool, len(l))
		for j := range l {
			related[i][j] = i == j || isConnected(l[i], l[j])
		}
	}
	for k := range l {
		for i := range l {
			for j := range l {
				related[i][j] = related[i][j] || related[i][k] && related[k][j]
			}
		}
	}
	var components [][]int
	for i := range l {
		var own []int
		for j := range l {
			if related[i][j] {
				own = append(own, j)
			}
		}
		if own[0] == i {
			components = append(components, own)
		}
	}
	return components
}

// isConnected reports whether two clauses contain numbers of the same magnitude. The least int is its own negative.
func isConnected(a, b []int) bool {
	for _, lit := range a {
		if slices.Contains(b, lit) || slices.Contains(b, -lit) {
			return true
		}
	}
	return false
}

// variables returns the set of the variables of clauses.
func variables(f [][]int) map[int]bool {
	set := map[int]bool{}
	for _, lit := range slices.Concat(f...) {
		set[max(lit, -lit)] = true
	}
	return set
}

// vanished returns the number of variables up to keep, other than one, that occur in the clauses f, but not in g.
func vanished(keep, other int, f, g [][]int) int {
	count := 0
	left := variables(g)
	for v := range variables(f) {
		if v <= keep && v != other && !left[v] {
			count++
		}
	}
	return count
}

// follows reports whether a claim follows by the line of its rule, if its clauses are a canonical list and its kids are earlier claims.
func follows(keep int, t api.Trace, c api.Claim) bool {
	var kids []api.Claim
	for _, kid := range c.Kids {
		kids = append(kids, t.Claims[kid])
	}
	v := max(c.Lit, -c.Lit)
	isResidual := func(kid, lit int) bool {
		return sample.IsSameList(kids[kid].Clauses, cnf.Residual(c.Clauses, lit))
	}
	doubled := func(kid int) int {
		return kids[kid].Count << vanished(keep, v, c.Clauses, kids[kid].Clauses)
	}
	occurs := variables(c.Clauses)[v]
	isEmpty := func(clause []int) bool { return len(clause) == 0 }
	isUnit := func(clause []int) bool { return slices.Equal(clause, []int{c.Lit}) }
	isKept := func(v int) bool { return v <= keep }
	switch c.Rule {
	case 0:
		return c.Lit == 0 && len(kids) == 0 && len(c.Clauses) == 0 && c.Count == 1
	case 1:
		return c.Lit == 0 && len(kids) == 0 && slices.ContainsFunc(c.Clauses, isEmpty) && c.Count == 0
	case 2:
		return len(kids) == 1 && slices.ContainsFunc(c.Clauses, isUnit) && isResidual(0, c.Lit) && c.Count == doubled(0)
	case 3:
		return len(kids) == 2 && c.Lit >= 1 && c.Lit <= keep && occurs && isResidual(0, -c.Lit) && isResidual(1, c.Lit) && c.Count == doubled(0)+doubled(1)
	case 4:
		return c.Lit == 0 && isDivided(c, kids)
	case 5:
		none := !slices.ContainsFunc(slices.Collect(maps.Keys(variables(c.Clauses))), isKept)
		return len(kids) == 1 && occurs && none && isResidual(0, c.Lit) && kids[0].Count == 1 && c.Count == 1
	case 6:
		return len(kids) == 2 && c.Lit > 0 && occurs && isResidual(0, -c.Lit) && isResidual(1, c.Lit) && kids[0].Count+kids[1].Count == 0 && c.Count == 0
	}
	return false
}

// isDivided reports whether a claim follows from others as its components.
func isDivided(c api.Claim, kids []api.Claim) bool {
	var all [][]int
	product := 1
	met := map[int]bool{}
	for _, kid := range kids {
		for v := range variables(kid.Clauses) {
			if met[v] {
				return false
			}
		}
		maps.Copy(met, variables(kid.Clauses))
		all = append(all, kid.Clauses...)
		product *= kid.Count
	}
	return len(kids) >= 2 && len(all) == len(c.Clauses) && sample.IsSameList(cnf.Canonical(all), c.Clauses) && c.Count == product
}

// totalModel returns the number that a trace proves, or -1 if it proves none for the formula.
func totalModel(c api.Cnf, t api.Trace) int {
	for i, claim := range t.Claims {
		if cnf.Check(api.Cnf{Vars: c.Vars, Clauses: claim.Clauses}) != api.OK {
			return -1
		}
		for _, kid := range claim.Kids {
			if kid < 0 || kid >= i {
				return -1
			}
		}
		if claim.Count < 0 || claim.Count > 1<<vanished(c.Keep, 0, claim.Clauses, nil) || !follows(c.Keep, t, claim) {
			return -1
		}
	}
	if len(t.Claims) == 0 || len(t.Claims) > 65536 {
		return -1
	}
	last := t.Claims[len(t.Claims)-1]
	if !sample.IsSameList(last.Clauses, c.Clauses) {
		return -1
	}
	free := c.Keep - vanished(c.Keep, 0, c.Clauses, nil)
	return last.Count << free
}
