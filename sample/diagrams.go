package sample

import (
	"cmp"
	"slices"

	"keyhole/api"
)

// part is a leaf, or a node with a low and a high part, of a diagram of any size.
type part struct {
	id, variable, value int
	low, high           *part
}

// drawing has the parts of a diagram by what they are: 0 and the value of a leaf, or 1, the variable and the numbers of the parts of a node.
type drawing map[[4]int]*part

func (d drawing) leaf(value int) *part {
	return d.only([4]int{0, value}, part{value: value})
}

func (d drawing) node(v int, low, high *part) *part {
	if low == high {
		return low
	}
	return d.only([4]int{1, v, low.id, high.id}, part{variable: v, low: low, high: high})
}

// only returns the part with a name, which is made if there is none.
func (d drawing) only(name [4]int, p part) *part {
	known, ok := d[name]
	if !ok {
		p.id = len(d)
		known = &p
		d[name] = known
	}
	return known
}

// canonical returns the diagram with a root, however large it is.
func canonical(vars int, root *part) api.Mtbdd {
	var leaves, nodes []*part
	met := map[*part]bool{}
	var walk func(p *part)
	walk = func(p *part) {
		if met[p] {
			return
		}
		met[p] = true
		if p.low == nil {
			leaves = append(leaves, p)
			return
		}
		walk(p.low)
		walk(p.high)
		nodes = append(nodes, p)
	}
	walk(root)
	slices.SortFunc(leaves, func(p, q *part) int { return cmp.Compare(p.value, q.value) })
	places := map[*part]int{}
	a := api.Mtbdd{Vars: vars}
	for i, p := range leaves {
		places[p] = i
		a.Leaves = append(a.Leaves, p.value)
	}
	for i, p := range nodes {
		places[p] = len(leaves) + i
		a.Nodes = append(a.Nodes, api.Fork{Var: p.variable, Low: places[p.low], High: places[p.high]})
	}
	a.Root = places[root]
	return a
}

// Reduced returns the canonical diagram, of any size, of the function that asks for no other variables than those of a list, and whose values for all of their assignments stand in a table.
func Reduced(vars int, over []int, table []int) api.Mtbdd {
	d := drawing{}
	var draw func(over []int, table []int) *part
	draw = func(over []int, table []int) *part {
		if len(over) == 0 {
			return d.leaf(table[0])
		}
		half := len(table) / 2
		low := draw(over[1:], table[:half])
		return d.node(over[0], low, draw(over[1:], table[half:]))
	}
	return canonical(vars, draw(over, table))
}

// Joined returns the canonical diagram, of any size, of the function that has the value op(l) where at most 7 diagrams over the same variables have the values l.
func Joined(op func(l []int) int, diagrams ...api.Mtbdd) api.Mtbdd {
	d := drawing{}
	joined := map[[8]int]*part{} // by the variable and the references of the diagrams, of which there are at most 7
	var join func(v int, at []int) *part
	join = func(v int, at []int) *part {
		if v == diagrams[0].Vars {
			var values []int
			for i, a := range diagrams {
				values = append(values, a.Leaves[at[i]])
			}
			return d.leaf(op(values))
		}
		place := [8]int{v}
		copy(place[1:], at)
		if joined[place] == nil {
			low := join(v+1, follow(diagrams, at, v, false))
			joined[place] = d.node(v, low, join(v+1, follow(diagrams, at, v, true)))
		}
		return joined[place]
	}
	var roots []int
	for _, a := range diagrams {
		roots = append(roots, a.Root)
	}
	return canonical(diagrams[0].Vars, join(0, roots))
}

// follow returns where references of diagrams lead if the variable v, before which they ask for none, has a value.
func follow(diagrams []api.Mtbdd, at []int, v int, value bool) []int {
	var next []int
	for i, a := range diagrams {
		to := at[i]
		if node := at[i] - len(a.Leaves); node >= 0 && a.Nodes[node].Var == v {
			to = a.Nodes[node].Low
			if value {
				to = a.Nodes[node].High
			}
		}
		next = append(next, to)
	}
	return next
}

// Binary returns a diagram with no other leaves than 0 and 1 as a binary one.
func Binary(a api.Mtbdd) api.Bdd {
	if len(a.Nodes) == 0 {
		return api.Bdd{Vars: a.Vars, Root: a.Leaves[a.Root]}
	}
	return api.Bdd{Vars: a.Vars, Nodes: a.Nodes, Root: a.Root}
}

// IsSame reports whether two diagrams are equal in all fields.
func IsSame(a, b api.Mtbdd) bool {
	return a.Vars == b.Vars && a.Root == b.Root && slices.Equal(a.Leaves, b.Leaves) && slices.Equal(a.Nodes, b.Nodes)
}

// Value returns the value of a diagram for an assignment.
func Value(a api.Mtbdd, in []bool) int {
	at := []int{a.Root}
	for v, value := range in {
		at = follow([]api.Mtbdd{a}, at, v, value)
	}
	return a.Leaves[at[0]]
}

// Assignments calls visit with all assignments of so many variables in their order.
func Assignments(vars int, visit func(in []bool)) {
	for n := range 1 << vars {
		in := make([]bool, vars)
		for v := range in {
			in[v] = n>>(vars-1-v)&1 == 1
		}
		visit(in)
	}
}

// Last returns the greatest n for which a size is at most a bound, if sizes grow with n, slightly from each n to the next.
func Last(bound int, size func(n int) int) int {
	within, beyond := 0, 1
	for size(beyond) <= bound {
		beyond *= 2
	}
	for beyond-within > 1 {
		middle := (within + beyond) / 2
		if size(middle) <= bound {
			within = middle
		} else {
			beyond = middle
		}
	}
	return within
}
