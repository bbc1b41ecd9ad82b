// Package diagram is no layer: it has what the decision diagrams of the layers 27 and 28 have in common. It treats all of them as diagrams with integer leaves; in a binary one the leaves are 0 for false and 1 for true.
package diagram

import "keyhole/api"

// OfBdd returns b as a diagram with the leaves 0 and 1, whether or not both are reached. It shares the nodes of b.
func OfBdd(b api.Bdd) api.Mtbdd {
	return api.Mtbdd{Vars: b.Vars, Leaves: []int{0, 1}, Nodes: b.Nodes, Root: b.Root}
}

// Bdd returns a canonical diagram with no other leaves than 0 and 1 as a binary one. It shares the nodes of a.
func Bdd(a api.Mtbdd) api.Bdd {
	if len(a.Nodes) == 0 {
		return api.Bdd{Vars: a.Vars, Root: a.Leaves[a.Root]}
	}
	return api.Bdd{Vars: a.Vars, Nodes: a.Nodes, Root: a.Root}
}

// IsOrdered reports whether the root and the nodes of a are in canonical form, and how many leaves can be reached from the root.
func IsOrdered(a api.Mtbdd) (reached int, ordered bool) {
	if a.Root < 0 || a.Root >= len(a.Leaves)+len(a.Nodes) || !isReduced(a) {
		return 0, false
	}
	met := make([]bool, len(a.Leaves))
	finished := 0 // as long as the order is right, these are the first nodes of the list
	var walk func(at int) bool
	walk = func(at int) bool {
		if at < len(met) {
			if !met[at] {
				met[at] = true
				reached++
			}
			return true
		}
		i := at - len(met)
		if i < finished {
			return true
		}
		if !walk(a.Nodes[i].Low) || !walk(a.Nodes[i].High) || i != finished {
			return false
		}
		finished++
		return true
	}
	if !walk(a.Root) || finished < len(a.Nodes) {
		return 0, false
	}
	return reached, true
}

// isReduced reports whether each node of a stands behind those to which it refers, asks for a variable that comes before theirs, has two different references, and occurs once.
func isReduced(a api.Mtbdd) bool {
	leaves := len(a.Leaves)
	before := func(v, at int) bool { return at < leaves || v < a.Nodes[at-leaves].Var }
	known := make(map[api.Fork]bool, len(a.Nodes))
	for i, f := range a.Nodes {
		if f.Var < 0 || f.Var >= a.Vars || f.Low == f.High || known[f] {
			return false
		}
		if min(f.Low, f.High) < 0 || max(f.Low, f.High) >= leaves+i {
			return false
		}
		if !before(f.Var, f.Low) || !before(f.Var, f.High) {
			return false
		}
		known[f] = true
	}
	return true
}

// Eval returns the value of a for an assignment.
func Eval(a api.Mtbdd, in []bool) int {
	at := a.Root
	for at >= len(a.Leaves) {
		f := a.Nodes[at-len(a.Leaves)]
		at = f.Low
		if in[f.Var] {
			at = f.High
		}
	}
	return a.Leaves[at]
}

// Table returns the values of a for all assignments in their order.
func Table(a api.Mtbdd) []int {
	table := make([]int, 1<<a.Vars)
	var fill func(at, v int, part []int)
	fill = func(at, v int, part []int) {
		if v == a.Vars {
			part[0] = a.Leaves[at]
			return
		}
		low, high := split(a, at, v)
		half := len(part) / 2
		fill(low, v+1, part[:half])
		fill(high, v+1, part[half:])
	}
	fill(a.Root, 0, table)
	return table
}

// split returns the references to which at, which asks for no variable before v, leads if v is false and if it is true.
func split(a api.Mtbdd, at, v int) (low, high int) {
	if variable(a, at) != v {
		return at, at
	}
	f := a.Nodes[at-len(a.Leaves)]
	return f.Low, f.High
}

// variable returns the variable for which at asks; a leaf stands behind all variables.
func variable(a api.Mtbdd, at int) int {
	if at < len(a.Leaves) {
		return end
	}
	return a.Nodes[at-len(a.Leaves)].Var
}

// Weights returns for each leaf of a the number of assignments that lead to it.
func Weights(a api.Mtbdd) []int {
	weights := make([]int, len(a.Leaves)+len(a.Nodes))
	weights[a.Root] = 1 << a.Vars
	for i := len(a.Nodes) - 1; i >= 0; i-- {
		half := weights[len(a.Leaves)+i] / 2
		weights[a.Nodes[i].Low] += half
		weights[a.Nodes[i].High] += half
	}
	return weights[:len(a.Leaves):len(a.Leaves)]
}

// Some reports whether there is an assignment for which the values x of a and y of b pass a test.
func Some(test func(x, y int) bool, a, b api.Mtbdd) bool {
	width := len(b.Leaves) + len(b.Nodes)
	seen := make([]uint64, ((len(a.Leaves)+len(a.Nodes))*width+63)/64)
	var search func(i, j int) bool
	search = func(i, j int) bool {
		bit := i*width + j
		if seen[bit/64]>>(bit%64)&1 == 1 {
			return false
		}
		seen[bit/64] |= 1 << (bit % 64)
		v := min(variable(a, i), variable(b, j))
		if v == end {
			return test(a.Leaves[i], b.Leaves[j])
		}
		lowI, highI := split(a, i, v)
		lowJ, highJ := split(b, j, v)
		return search(lowI, lowJ) || search(highI, highJ)
	}
	return search(a.Root, b.Root)
}
