package cfg

import (
	"maps"
	"slices"

	"keyhole/api"
	"keyhole/digraph"
)

// Reaching returns for each node the definitions that reach it.
func Reaching(f api.Flat, g api.Cfg) ([][]int, api.Code) {
	if code := Check(f, g); code != api.OK {
		return nil, code
	}
	steps := preorder(f.Body)
	r := newReaching(g, steps)
	for i, n := range g.Nodes {
		if v := r.assigned[i]; v != none {
			r.define(n.At, v, i)
		}
	}
	for v := range f.Vars {
		r.define(len(steps)+v, v, 0)
	}
	lists := make([][]int, len(g.Nodes))
	for node, set := range r.sets {
		lists[node] = slices.Sorted(maps.Keys(set))
	}
	return lists, api.OK
}

// reaching has the definitions that are known to reach nodes.
type reaching struct {
	next     [][]int // the nodes to which edges lead from each node
	assigned []int   // the variable that each node assigns, or none
	sets     map[int]map[int]bool
}

// newReaching returns the start of a search in the graph g of a program with these steps.
func newReaching(g api.Cfg, steps []api.Step) reaching {
	edges, _ := Graph(g)
	next, _ := digraph.Successors(edges)
	r := reaching{next: next, sets: map[int]map[int]bool{}}
	for i, n := range g.Nodes {
		v := none
		if n.Kind == api.NodeStep && (steps[n.At].Do == api.Assign || steps[n.At].Do == api.Release) {
			v = steps[n.At].Var
		}
		r.assigned = append(r.assigned, v)
		r.sets[i] = map[int]bool{}
	}
	return r
}

// define adds a definition of a variable to the sets of the nodes that it reaches from a node.
func (r reaching) define(definition, variable, from int) {
	open := slices.Clone(r.next[from])
	for len(open) > 0 {
		node := open[len(open)-1]
		open = open[:len(open)-1]
		if r.sets[node][definition] {
			continue
		}
		r.sets[node][definition] = true
		if r.assigned[node] != variable {
			open = append(open, r.next[node]...)
		}
	}
}
