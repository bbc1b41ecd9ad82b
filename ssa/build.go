package ssa

import (
	"slices"

	"keyhole/api"
	"keyhole/dominance"
)

// builder makes a right form of a program: each definition and each phi gets a version of its own.
type builder struct {
	program
	form   api.Ssa
	below  [][]int // the nodes of which each node is the immediate dominator
	stacks [][]int // of each variable: the versions on the way down to where the walk is; the last one reaches it
}

// build returns a right form of the program.
func (p program) build() api.Ssa {
	b := builder{program: p, below: make([][]int, len(p.nodes))}
	b.form.Nodes = make([]api.SsaNode, len(p.nodes))
	for v := range p.flat.Vars {
		b.form.Of = append(b.form.Of, v)
		b.stacks = append(b.stacks, []int{v})
	}
	tree, _ := dominance.Tree(p.edges, 0)
	for node, above := range tree {
		if above >= 0 {
			b.below[above] = append(b.below[above], node)
		}
	}
	b.placePhis()
	b.rename(0)
	return b.form
}

// placePhis gives a phi to each node where definitions of a variable, or phis of it, may meet another version.
func (b *builder) placePhis() {
	frontiers, _ := dominance.Frontier(b.edges, 0)
	for v := range b.flat.Vars {
		hasPhi := make([]bool, len(b.nodes))
		var open []int
		for node, defined := range b.defines {
			if defined == v {
				open = append(open, node)
			}
		}
		for len(open) > 0 {
			node := open[len(open)-1]
			open = open[:len(open)-1]
			for _, join := range frontiers[node] {
				if !hasPhi[join] {
					hasPhi[join] = true
					open = append(open, join)
					b.addPhi(join, v)
				}
			}
		}
	}
}

// addPhi adds a phi, whose versions are still open, to those of a node.
func (b *builder) addPhi(node, v int) {
	from := slices.Clone(b.before[node])
	n := &b.form.Nodes[node]
	n.Phis = append(n.Phis, api.Phi{Var: v, From: from, Args: make([]int, len(from))})
}

// rename writes the versions of a node, and of all nodes that it dominates.
func (b *builder) rename(node int) {
	n := &b.form.Nodes[node]
	for i := range n.Phis {
		phi := &n.Phis[i]
		phi.Version = b.push(phi.Var)
		defer b.pop(phi.Var)
	}
	for _, v := range b.reads[node] {
		n.Uses = append(n.Uses, api.Use{Var: v, Version: b.top(v)})
	}
	n.Def = none
	if v := b.defines[node]; v != none {
		n.Def = b.push(v)
		defer b.pop(v)
	}
	for _, to := range b.next[node] {
		from := slices.Index(b.before[to], node)
		for _, phi := range b.form.Nodes[to].Phis {
			phi.Args[from] = b.top(phi.Var)
		}
	}
	for _, dominated := range b.below[node] {
		b.rename(dominated)
	}
}

// push returns a new version of a variable, which reaches the nodes below until it is popped.
func (b *builder) push(v int) int {
	version := len(b.form.Of)
	b.form.Of = append(b.form.Of, v)
	b.stacks[v] = append(b.stacks[v], version)
	return version
}

func (b *builder) pop(v int) {
	b.stacks[v] = b.stacks[v][:len(b.stacks[v])-1]
}

// top returns the version of a variable that reaches the place of the walk.
func (b *builder) top(v int) int {
	return b.stacks[v][len(b.stacks[v])-1]
}
