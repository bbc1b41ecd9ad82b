package slice_test

import (
	"slices"

	"keyhole/api"
	"keyhole/cfg"
	"keyhole/flat"
)

// model has the dependences of the steps of a program.
type model struct {
	f        api.Flat
	all      []api.Step // in preorder
	reaching [][]int    // the definitions that reach each step
	depends  [][]bool   // the first step on the second one
}

func newModel(f api.Flat) model {
	g, _ := cfg.Build(f)
	lists, code := cfg.Reaching(f, g)
	if code != api.OK {
		panic(code)
	}
	m := model{f: f, all: make([]api.Step, flat.Size(f))}
	for i := range m.all {
		m.all[i], _ = flat.At(f, i)
		node, _ := cfg.NodeAt(f, i)
		if m.all[i].Do == api.Loop {
			node++
		}
		m.reaching = append(m.reaching, lists[node])
	}
	for t := range m.all {
		var row []bool
		for s := range m.all {
			row = append(row, s == t || m.isAround(s, t) || m.isRead(s, t))
		}
		m.depends = append(m.depends, row)
	}
	for by := range m.all {
		for t := range m.all {
			for s := range m.all {
				m.depends[t][s] = m.depends[t][s] || m.depends[t][by] && m.depends[by][s]
			}
		}
	}
	return m
}

// isAround reports whether t stands in s. (It stands directly in s, or in a step that does.)
func (m model) isAround(s, t int) bool {
	return t > s && t < s+flat.Size(api.Flat{Body: []api.Step{m.all[s]}})
}

// isRead reports whether s assigns a variable that t reads, and this definition reaches t.
func (m model) isRead(s, t int) bool {
	do := m.all[s].Do
	return (do == api.Assign || do == api.Release) && mentions(m.all[t].Term, m.all[s].Var) && slices.Contains(m.reaching[t], s)
}

func mentions(t api.Term, v int) bool {
	return t.Op == api.OpRef && t.N == v || slices.ContainsFunc(t.Kids, func(kid api.Term) bool { return mentions(kid, v) })
}

// chosen returns the numbers below n that have a property.
func chosen(n int, has func(i int) bool) []int {
	var list []int
	for i := range n {
		if has(i) {
			list = append(list, i)
		}
	}
	return list
}

func (m model) backward(steps []int) []int {
	return chosen(len(m.all), func(s int) bool { return slices.ContainsFunc(steps, func(t int) bool { return m.depends[t][s] }) })
}

func (m model) forward(steps []int) []int {
	return chosen(len(m.all), func(t int) bool { return slices.ContainsFunc(steps, func(s int) bool { return m.depends[t][s] }) })
}

func (m model) chop(from, to []int) []int {
	return chosen(len(m.all), func(i int) bool { return slices.Contains(m.forward(from), i) && slices.Contains(m.backward(to), i) })
}

// isNeeded reports whether the variable v is needed by the step t.
func (m model) isNeeded(v, t int) bool {
	for u, s := range m.all {
		if m.depends[t][u] && mentions(s.Term, v) && slices.Contains(m.reaching[u], len(m.all)+v) {
			return true
		}
		if m.depends[t][u] && s.Do == api.Release && mentions(m.f.Hatches[s.N].Term, v) {
			return true
		}
	}
	return false
}

func (m model) needs(steps []int) []int {
	return chosen(len(m.f.Vars), func(v int) bool { return slices.ContainsFunc(steps, func(t int) bool { return m.isNeeded(v, t) }) })
}

func (m model) isClosed(keep []int) bool {
	for _, t := range keep {
		for s := range m.all {
			if m.depends[t][s] && !slices.Contains(keep, s) {
				return false
			}
		}
	}
	return true
}

// program returns the program of the steps that stay.
func (m model) program(keep []int) api.Flat {
	next := -1
	var kept func(list []api.Step, isKept bool) []api.Step
	kept = func(list []api.Step, isKept bool) []api.Step {
		var result []api.Step
		for _, s := range list {
			next++
			stays := isKept && slices.Contains(keep, next)
			s.Then, s.Else = kept(s.Then, stays), kept(s.Else, stays)
			if stays {
				result = append(result, s)
			}
		}
		return result
	}
	return api.Flat{Vars: m.f.Vars, Hatches: m.f.Hatches, Body: kept(m.f.Body, true)}
}
