package counter

import "keyhole/api"

// magnitude returns the variable of a literal. It is that of raw numbers, too: the least int has none among the ints.
func magnitude(lit int) uint {
	if lit < 0 {
		return -uint(lit)
	}
	return uint(lit)
}

// Components returns the connected components of a list of clauses, as lists of indices.
func Components(l [][]int) [][]int {
	links := make([]int, len(l)) // to earlier clauses of the same component, and of the first one to itself
	first := func(i int) int {
		for links[i] != i {
			links[i] = links[links[i]]
			i = links[i]
		}
		return i
	}
	met := map[uint]int{} // a clause with each magnitude
	for i, clause := range l {
		links[i] = i
		for _, lit := range clause {
			m := magnitude(lit)
			if j, ok := met[m]; ok {
				a, b := first(i), first(j)
				links[max(a, b)] = min(a, b)
			}
			met[m] = i
		}
	}
	var components [][]int
	numbers := make([]int, len(l)) // of the components, by their first clauses
	for i := range l {
		f := first(i)
		if f == i {
			numbers[i] = len(components)
			components = append(components, nil)
		}
		components[numbers[f]] = append(components[numbers[f]], i)
	}
	return components
}

// parts returns the components of clauses of variables up to vars, of which those up to keep are kept, as formulas of their own: their variables get the numbers from 1 on, in their order.
func parts(clauses [][]int, vars, keep int) []api.Cnf {
	components := Components(clauses)
	parts := make([]api.Cnf, len(components))
	owners := make([]*api.Cnf, vars+1)
	for k, component := range components {
		for _, i := range component {
			for _, lit := range clauses[i] {
				owners[magnitude(lit)] = &parts[k]
			}
		}
	}
	numbers := make([]int, vars+1)
	for v, owner := range owners {
		if owner == nil {
			continue
		}
		owner.Vars++
		numbers[v] = owner.Vars
		if v <= keep {
			owner.Keep++
		}
	}
	for k, component := range components {
		for _, i := range component {
			parts[k].Clauses = append(parts[k].Clauses, renamed(clauses[i], numbers))
		}
	}
	return parts
}

// renamed returns a clause whose variables have got other numbers.
func renamed(clause, numbers []int) []int {
	own := make([]int, len(clause))
	for i, lit := range clause {
		if lit < 0 {
			own[i] = -numbers[-lit]
		} else {
			own[i] = numbers[lit]
		}
	}
	return own
}
