package ssa

import (
	"slices"

	"keyhole/api"
)

// isRight reports whether s is a right form of the program.
func (p program) isRight(s api.Ssa) bool {
	if !p.hasVariables(s.Of) || len(s.Nodes) != len(p.nodes) {
		return false
	}
	for node := range s.Nodes {
		if !p.hasPhis(s, node) || !p.hasDef(s, node) {
			return false
		}
	}
	return p.definesEachOnce(s) && p.reachesReaders(s)
}

// hasVariables reports whether versions may be of these variables: first one of each, then any of locals.
func (p program) hasVariables(of []int) bool {
	vars := p.flat.Vars
	if len(of) < len(vars) {
		return false
	}
	for version, v := range of {
		isVariable := v >= 0 && v < len(vars)
		if !isVariable || version < len(vars) && v != version || version >= len(vars) && vars[v].Kind != api.Local {
			return false
		}
	}
	return true
}

// isDefined reports whether a version may be defined by a node or a phi for the variable v.
func (p program) isDefined(s api.Ssa, version, v int) bool {
	return version >= len(p.flat.Vars) && version < len(s.Of) && s.Of[version] == v
}

// hasPhis reports whether the phis of a node join versions of one variable each, from all nodes before it.
func (p program) hasPhis(s api.Ssa, node int) bool {
	phis := s.Nodes[node].Phis
	if node == 0 {
		return len(phis) == 0
	}
	for i, phi := range phis {
		isInOrder := i == 0 || phis[i-1].Var < phi.Var
		if !isInOrder || !p.isDefined(s, phi.Version, phi.Var) || !slices.Equal(phi.From, p.before[node]) || len(phi.Args) != len(phi.From) {
			return false
		}
	}
	return true
}

// hasDef reports whether a node defines a version exactly if it defines a variable, and one of this variable.
func (p program) hasDef(s api.Ssa, node int) bool {
	version, v := s.Nodes[node].Def, p.defines[node]
	if v == none {
		return version == none
	}
	return p.isDefined(s, version, v)
}

// definesEachOnce reports whether each version but the initial values has one definition.
func (p program) definesEachOnce(s api.Ssa) bool {
	count := make([]int, len(s.Of))
	for _, n := range s.Nodes {
		for _, phi := range n.Phis {
			count[phi.Version]++
		}
		if n.Def != none {
			count[n.Def]++
		}
	}
	isOther := func(n int) bool { return n != 1 }
	return !slices.ContainsFunc(count[len(p.flat.Vars):], isOther)
}

// reachesReaders reports whether the versions that reach the nodes are those that the nodes and phis read.
func (p program) reachesReaders(s api.Ssa) bool {
	r := p.reach(s)
	for node, n := range s.Nodes {
		if !r.isRead(node, n.Uses) {
			return false
		}
		for _, phi := range n.Phis {
			if !r.isJoined(node, phi) {
				return false
			}
		}
	}
	return true
}

// isRead reports whether the uses are the variables that a node reads, with the versions that reach it.
func (r reach) isRead(node int, uses []api.Use) bool {
	if len(uses) != len(r.reads[node]) {
		return false
	}
	for i, v := range r.reads[node] {
		version := r.in[node][v]
		if version == mixed || uses[i] != (api.Use{Var: v, Version: version}) {
			return false
		}
	}
	return true
}

// isJoined reports whether the arguments of a phi are the versions that leave the nodes before its node.
func (r reach) isJoined(node int, phi api.Phi) bool {
	for i, from := range r.before[node] {
		if version := r.out(from, phi.Var); version == mixed || phi.Args[i] != version {
			return false
		}
	}
	return true
}
