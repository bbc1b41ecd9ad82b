package ssa_test

import (
	"slices"

	"keyhole/api"
	"keyhole/flat"
)

// model answers what the chapter asks of a program and a form by searches backwards along the edges.
type model struct {
	f api.Flat
	g api.Cfg
	s api.Ssa
}

// step returns the step of a node, or a Wait for the entry, the exit and the NodeEnter of a Loop, which read and define nothing.
func (m model) step(node int) api.Step {
	n := m.g.Nodes[node]
	s, code := flat.At(m.f, n.At)
	if code != api.OK || n.Kind == api.NodeEnter {
		return api.Step{Do: api.Wait}
	}
	return s
}

// before returns the nodes from which edges lead to a node.
func (m model) before(node int) []int {
	var list []int
	for from, n := range m.g.Nodes {
		if n.Next == node || n.Other == node {
			list = append(list, from)
		}
	}
	return list
}

// defines returns the variable that a node defines, or -1.
func (m model) defines(node int) int {
	if s := m.step(node); s.Do == api.Assign || s.Do == api.Release {
		return s.Var
	}
	return -1
}

// reads returns the variables that a node reads.
func (m model) reads(node int) []int {
	var list []int
	for v := range m.f.Vars {
		if mentions(m.step(node).Term, v) {
			list = append(list, v)
		}
	}
	return list
}

func mentions(t api.Term, v int) bool {
	return t.Op == api.OpRef && t.N == v || slices.ContainsFunc(t.Kids, func(kid api.Term) bool { return mentions(kid, v) })
}

// into returns the versions of a variable that reach the terms of a node: those of the definitions and phis from which paths lead to it that pass no other one.
func (m model) into(node, v int) []int {
	var found []int
	met := make([]bool, len(m.g.Nodes))
	var search func(node int)
	search = func(node int) {
		for _, phi := range m.s.Nodes[node].Phis {
			if phi.Var == v {
				found = append(found, phi.Version)
				return
			}
		}
		if node == 0 {
			found = append(found, v)
		}
		for _, from := range m.before(node) {
			switch {
			case met[from]:
			case m.defines(from) == v:
				met[from] = true
				found = append(found, m.s.Nodes[from].Def)
			default:
				met[from] = true
				search(from)
			}
		}
	}
	search(node)
	slices.Sort(found)
	return slices.Compact(found)
}

// outOf returns the versions of a variable that leave a node.
func (m model) outOf(node, v int) []int {
	if m.defines(node) == v {
		return []int{m.s.Nodes[node].Def}
	}
	return m.into(node, v)
}

// isRight reports whether the form is right, condition by condition.
func (m model) isRight() bool {
	n := len(m.f.Vars)
	if len(m.s.Of) < n || len(m.s.Nodes) != len(m.g.Nodes) {
		return false
	}
	for version, v := range m.s.Of {
		if v < 0 || v >= n || version < n && v != version || version >= n && m.f.Vars[v].Kind != api.Local {
			return false
		}
	}
	definitions := map[int]int{}
	for node := range m.s.Nodes {
		if !m.isFormed(node, definitions) {
			return false
		}
	}
	for version := n; version < len(m.s.Of); version++ {
		if definitions[version] != 1 {
			return false
		}
	}
	for node := range m.s.Nodes {
		if !m.isReached(node) {
			return false
		}
	}
	return true
}

// isFormed reports whether a node is as the conditions 3 to 5 say, and counts the definitions of versions.
func (m model) isFormed(node int, definitions map[int]int) bool {
	isOf := func(version, v, first int) bool {
		return version >= first && version < len(m.s.Of) && m.s.Of[version] == v
	}
	n, count := m.s.Nodes[node], len(m.f.Vars)
	if node == 0 && len(n.Phis) > 0 {
		return false
	}
	last := -1
	for _, phi := range n.Phis {
		if phi.Var <= last || !isOf(phi.Version, phi.Var, count) || !slices.Equal(phi.From, m.before(node)) || len(phi.Args) != len(phi.From) {
			return false
		}
		for _, arg := range phi.Args {
			if !isOf(arg, phi.Var, 0) {
				return false
			}
		}
		last = phi.Var
		definitions[phi.Version]++
	}
	if v := m.defines(node); v < 0 && n.Def != -1 || v >= 0 && !isOf(n.Def, v, count) {
		return false
	}
	definitions[n.Def]++
	var used []int
	for _, use := range n.Uses {
		if !isOf(use.Version, use.Var, 0) {
			return false
		}
		used = append(used, use.Var)
	}
	return slices.Equal(used, m.reads(node))
}

// isReached reports whether the versions reach where a node and its phis read them, without others.
func (m model) isReached(node int) bool {
	for _, use := range m.s.Nodes[node].Uses {
		if !slices.Equal(m.into(node, use.Var), []int{use.Version}) {
			return false
		}
	}
	for _, phi := range m.s.Nodes[node].Phis {
		for i, from := range phi.From {
			if !slices.Equal(m.outOf(from, phi.Var), []int{phi.Args[i]}) {
				return false
			}
		}
	}
	return true
}

// needed returns the least set of the chapter, as a fixed point.
func (m model) needed() []bool {
	needed := make([]bool, len(m.s.Of))
	for isChanged := true; isChanged; {
		isChanged = false
		need := func(version int) {
			isChanged = isChanged || !needed[version]
			needed[version] = true
		}
		for node, n := range m.s.Nodes {
			kind, do := m.g.Nodes[node].Kind, m.step(node).Do
			isRoot := kind == api.NodeTest || kind == api.NodeHead || kind == api.NodeStep && do == api.Output
			if isRoot || kind == api.NodeStep && do == api.Assign && needed[n.Def] {
				for _, use := range n.Uses {
					need(use.Version)
				}
			}
			for _, phi := range n.Phis {
				for _, arg := range phi.Args {
					if needed[phi.Version] {
						need(arg)
					}
				}
			}
		}
	}
	return needed
}

// form returns a right form that has a phi of each local variable wherever edges meet, and others at random, some of which are left out again as far as the form stays right. Its versions are numbered at random.
func (g generator) form(f api.Flat, c api.Cfg) api.Ssa {
	m := model{f: f, g: c}
	places := map[[2]int]bool{} // of phis: a node and a variable
	for node := range c.Nodes[1:] {
		for _, v := range locals {
			if len(m.before(node+1)) > 1 || g.Intn(4) == 0 {
				places[[2]int{node + 1, v}] = true
			}
		}
	}
	m.s = g.formWith(m, places)
	for range g.Intn(6) {
		place := [2]int{1 + g.Intn(len(c.Nodes)-1), locals[g.Intn(len(locals))]}
		if !places[place] {
			continue
		}
		delete(places, place)
		if other := g.formWith(m, places); (model{f, c, other}).isRight() {
			m.s = other
		} else {
			places[place] = true
		}
	}
	return m.s
}

// formWith returns a form with phis at the places. It is right if nothing is mixed where it is read.
func (g generator) formWith(m model, places map[[2]int]bool) api.Ssa {
	var s api.Ssa
	for v := range m.f.Vars {
		s.Of = append(s.Of, v)
	}
	define := func(v int) int {
		s.Of = append(s.Of, v)
		return len(s.Of) - 1
	}
	for node := range m.g.Nodes {
		n := api.SsaNode{Def: -1}
		for _, v := range locals {
			if places[[2]int{node, v}] {
				n.Phis = append(n.Phis, api.Phi{Var: v, Version: define(v), From: m.before(node)})
			}
		}
		if v := m.defines(node); v >= 0 {
			n.Def = define(v)
		}
		s.Nodes = append(s.Nodes, n)
	}
	s = renumbered(s, len(m.f.Vars), g.Perm(len(s.Of)-len(m.f.Vars)))
	m.s = s
	for node := range s.Nodes {
		n := &s.Nodes[node]
		for i := range n.Phis {
			for _, from := range n.Phis[i].From {
				n.Phis[i].Args = append(n.Phis[i].Args, m.outOf(from, n.Phis[i].Var)[0])
			}
		}
		for _, v := range m.reads(node) {
			n.Uses = append(n.Uses, api.Use{Var: v, Version: m.into(node, v)[0]})
		}
	}
	return s
}

// renumbered returns the form in which the version first+i has the number first+order[i].
func renumbered(s api.Ssa, first int, order []int) api.Ssa {
	to := func(version int) int {
		if version < first {
			return version
		}
		return first + order[version-first]
	}
	result := api.Ssa{Of: make([]int, len(s.Of))}
	for version, v := range s.Of {
		result.Of[to(version)] = v
	}
	for _, n := range s.Nodes {
		other := api.SsaNode{Def: to(n.Def)}
		for _, phi := range n.Phis {
			phi.Version, phi.From, phi.Args = to(phi.Version), slices.Clone(phi.From), slices.Clone(phi.Args)
			for i := range phi.Args {
				phi.Args[i] = to(phi.Args[i])
			}
			other.Phis = append(other.Phis, phi)
		}
		for _, use := range n.Uses {
			other.Uses = append(other.Uses, api.Use{Var: use.Var, Version: to(use.Version)})
		}
		result.Nodes = append(result.Nodes, other)
	}
	return result
}
