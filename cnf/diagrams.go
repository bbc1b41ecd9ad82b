package cnf

import (
	"slices"

	"keyhole/api"
)

// yes is a literal that is always true, and its negative one that is always false. They stand for no variable, and are in no formula.
const yes = api.MaxCnfVar + 1

// collector collects the clauses of a formula.
type collector struct {
	clauses [][]int
}

// add appends the clause of literals, without what is always false, unless something in it is always true.
func (c *collector) add(lits ...int) {
	if slices.Contains(lits, yes) {
		return
	}
	c.clauses = append(c.clauses, slices.DeleteFunc(lits, func(lit int) bool { return lit == -yes }))
}

// fork appends the clauses by which a node is followed: if it is true, then high is if the variable is, and low if it is not.
func (c *collector) fork(node, variable, low, high int) {
	c.add(-node, -variable, high)
	c.add(-node, variable, low)
}

// ofBdd returns the formula of a valid diagram.
func ofBdd(b api.Bdd) api.Cnf {
	lit := func(at int) int {
		switch at {
		case 0:
			return -yes
		case 1:
			return yes
		}
		return b.Vars + at - 1
	}
	var c collector
	c.add(lit(b.Root))
	for i, f := range b.Nodes {
		node, variable, low, high := b.Vars+i+1, f.Var+1, lit(f.Low), lit(f.High)
		c.fork(node, variable, low, high)
		c.add(-high, -variable, node)
		c.add(-low, variable, node)
	}
	return api.Cnf{Vars: b.Vars + len(b.Nodes), Keep: b.Vars, Clauses: Canonical(c.clauses)}
}

// ofMtbdd returns the formula of a valid diagram whose leaves from 0 on are numbers of words of the same width.
func ofMtbdd(a api.Mtbdd, words [][]bool, width int) (api.Cnf, api.Code) {
	vars := width + a.Vars + len(a.Leaves) + len(a.Nodes)
	if vars > api.MaxCnfVar || countOfMtbdd(a, width) > api.MaxClause {
		return api.Cnf{}, api.ErrLimit
	}
	lit := func(at int) int { return width + a.Vars + at + 1 }
	var c collector
	c.add(lit(a.Root))
	for i, leaf := range a.Leaves {
		if leaf < 0 {
			c.add(-lit(i))
			continue
		}
		for k, bit := range words[leaf] {
			if bit {
				c.add(-lit(i), k+1)
			} else {
				c.add(-lit(i), -k-1)
			}
		}
	}
	for i, f := range a.Nodes {
		c.fork(lit(len(a.Leaves)+i), width+f.Var+1, lit(f.Low), lit(f.High))
	}
	return api.Cnf{Vars: vars, Keep: width, Clauses: Canonical(c.clauses)}, api.OK
}

// countOfMtbdd returns the number of clauses, which are all different, of a diagram with words of a width.
func countOfMtbdd(a api.Mtbdd, width int) int {
	count := 1 + 2*len(a.Nodes)
	for _, leaf := range a.Leaves {
		if leaf < 0 {
			count++
		} else {
			count += width
		}
	}
	return count
}
