package pdg

import (
	"slices"

	"keyhole/api"
)

// Back reports for each node of d whether one of the given nodes depends on it.
func Back(d api.Pdg, nodes []int) ([]bool, api.Code) {
	return spread(d, nodes, func(dep api.Dep) (from, to int) { return dep.To, dep.From })
}

// Forth reports for each node of d whether it depends on one of the given nodes.
func Forth(d api.Pdg, nodes []int) ([]bool, api.Code) {
	return spread(d, nodes, func(dep api.Dep) (from, to int) { return dep.From, dep.To })
}

// spread reports for each node of d whether it is one of the given nodes, or is reached from them. From which end to which one
// dependences are followed is said by ends.
func spread(d api.Pdg, nodes []int, ends func(dep api.Dep) (from, to int)) ([]bool, api.Code) {
	if Check(d) != api.OK {
		return nil, api.ErrArgument
	}
	if slices.ContainsFunc(nodes, func(node int) bool { return !isNode(d, node) }) {
		return nil, api.ErrRange
	}
	next := make([][]int, timeOf(d)+1)
	for _, dep := range d.Deps {
		from, to := ends(dep)
		next[from] = append(next[from], to)
	}
	met := make([]bool, len(next))
	for _, node := range nodes {
		met[node] = true
	}
	open := make([]int, len(nodes))
	copy(open, nodes)
	for len(open) > 0 {
		node := open[len(open)-1]
		open = open[:len(open)-1]
		for _, other := range next[node] {
			if !met[other] {
				met[other] = true
				open = append(open, other)
			}
		}
	}
	return met, api.OK
}
