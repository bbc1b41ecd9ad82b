package ssa

import (
	"keyhole/api"
	"keyhole/cfg"
	"keyhole/digraph"
	"keyhole/outline"
)

// none is the variable, and the version, that a node defines if it defines nothing.
const none = -1

// program is a valid flat program over its control-flow graph.
type program struct {
	flat         api.Flat
	nodes        []api.Node
	places       []outline.Place
	edges        api.Graph
	next, before [][]int // the nodes to which edges lead from each node, and those from which edges lead to it
	reads        [][]int // the variables that each node reads
	defines      []int   // the variable that each node defines, or none
}

// programOf returns the program f over g, or the code of the first error.
func programOf(f api.Flat, g api.Cfg) (program, api.Code) {
	if code := cfg.Check(f, g); code != api.OK {
		return program{}, code
	}
	p := program{flat: f, nodes: g.Nodes, places: outline.Places(f)}
	p.edges, _ = cfg.Graph(g)
	p.next, _ = digraph.Successors(p.edges)
	backwards, _ := digraph.Reverse(p.edges)
	p.before, _ = digraph.Successors(backwards)
	for _, n := range g.Nodes {
		p.reads = append(p.reads, p.readBy(n))
		p.defines = append(p.defines, p.definedBy(n))
	}
	return p, api.OK
}

// programWith returns the program f over g if s is a right form of it, or the code of the first error.
func programWith(f api.Flat, g api.Cfg, s api.Ssa) (program, api.Code) {
	p, code := programOf(f, g)
	if code == api.OK && !p.isRight(s) {
		return program{}, api.ErrProof
	}
	return p, code
}

// readBy returns the variables that a node reads, in ascending order.
func (p program) readBy(n api.Node) []int {
	switch n.Kind {
	case api.NodeStep, api.NodeTest, api.NodeHead:
		// Steps that read nothing have the zero term, in which there are no variables.
		return outline.Variables(p.places[n.At].Term)
	}
	return nil
}

// definedBy returns the variable that a node defines, or none.
func (p program) definedBy(n api.Node) int {
	if n.Kind != api.NodeStep {
		return none
	}
	switch s := p.places[n.At]; s.Do {
	case api.Assign, api.Release:
		return s.Var
	}
	return none
}
