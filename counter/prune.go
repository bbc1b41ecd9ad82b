package counter

import "slices"

// fewPairs is the number of pairs of clauses up to which a variable is worth to be looked at.
const fewPairs = 1 << 10

// pruner drops clauses.
type pruner struct {
	clauses [][]int
	dropped []bool
	with    [][]int // for each literal, by its place, the clauses that contain it
}

// place returns the index of what belongs to a literal.
func place(lit int) int {
	if lit < 0 {
		return -2 * lit
	}
	return 2*lit + 1
}

// pruned returns clauses without those of each variable above keep that always has a value for which its clauses are true, whatever the values of the other variables are: for the projected count they do not matter. Without these clauses there may be more such variables.
func pruned(clauses [][]int, vars, keep int) [][]int {
	p := pruner{clauses, make([]bool, len(clauses)), make([][]int, 2*vars+2)}
	for i, clause := range clauses {
		for _, lit := range clause {
			p.with[place(lit)] = append(p.with[place(lit)], i)
		}
	}
	var open []int
	for v := keep + 1; v <= vars; v++ {
		open = append(open, v)
	}
	for len(open) > 0 {
		v := open[len(open)-1]
		open = open[:len(open)-1]
		for _, lit := range p.drop(v) {
			if v := max(lit, -lit); v > keep {
				open = append(open, v)
			}
		}
	}
	var left [][]int
	for i, clause := range clauses {
		if !p.dropped[i] {
			left = append(left, clause)
		}
	}
	return left
}

// drop drops the clauses of a variable, if it always has a value for which they are true, and returns their literals.
func (p *pruner) drop(v int) []int {
	with, without := p.left(v), p.left(-v)
	if len(with)*len(without) > fewPairs {
		return nil
	}
	for _, i := range with {
		for _, j := range without {
			if !isSure(p.clauses[i], p.clauses[j], v) {
				return nil
			}
		}
	}
	var lits []int
	for _, i := range slices.Concat(with, without) {
		p.dropped[i] = true
		lits = append(lits, p.clauses[i]...)
	}
	return lits
}

// left returns the clauses that contain a literal and have not been dropped.
func (p *pruner) left(lit int) []int {
	list := slices.DeleteFunc(p.with[place(lit)], func(i int) bool { return p.dropped[i] })
	p.with[place(lit)] = list
	return list
}

// isSure reports whether one of two clauses is always true because of another variable than v.
func isSure(a, b []int, v int) bool {
	for _, lit := range a {
		if lit != v && slices.Contains(b, -lit) {
			return true
		}
	}
	return false
}
