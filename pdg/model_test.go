package pdg_test

import (
	"slices"

	"keyhole/api"
	"keyhole/cfg"
	"keyhole/flat"
)

// model is a program with the numbers of the nodes of its dependence graph.
type model struct {
	f           api.Flat
	all         []api.Step // in preorder
	steps, vars int
	reaching    [][]int // the definitions that reach the node at which each step reads its term
}

func newModel(f api.Flat) model {
	m := model{f: f, steps: flat.Size(f), vars: len(f.Vars)}
	g, _ := cfg.Build(f)
	reaching, code := cfg.Reaching(f, g)
	if code != api.OK {
		panic(code)
	}
	for i := range m.steps {
		s, _ := flat.At(f, i)
		node, _ := cfg.NodeAt(f, i)
		if s.Do == api.Loop {
			node++
		}
		m.all = append(m.all, s)
		m.reaching = append(m.reaching, reaching[node])
	}
	return m
}

func mentions(t api.Term, v int) bool {
	return t.Op == api.OpRef && t.N == v || slices.ContainsFunc(t.Kids, func(kid api.Term) bool { return mentions(kid, v) })
}

// reaches reports whether the definition d is one of the variable v that reaches the node of the step i.
func (m model) reaches(d, v, i int) bool {
	isDefinition := d == m.steps+v
	if d < m.steps {
		s := m.all[d]
		isDefinition = (s.Do == api.Assign || s.Do == api.Release) && s.Var == v
	}
	return isDefinition && slices.Contains(m.reaching[i], d)
}

// isInside reports whether the step i stands directly in the step c: in it, and in none that is in it.
func (m model) isInside(c, i int) bool {
	contains := func(c, i int) bool { return i > c && i < c+flat.Size(api.Flat{Body: []api.Step{m.all[c]}}) }
	for between := c + 1; between < i; between++ {
		if contains(between, i) {
			return false
		}
	}
	return contains(c, i)
}

// hasTime reports whether the running time depends on the step c.
func (m model) hasTime(c int) bool {
	if last := len(m.f.Body) - 1; last >= 0 && m.f.Body[last].Do == api.Settle {
		if _, _, time, _ := flat.Bounds(m.f); time <= m.f.Body[last].Bounds[0] {
			return false
		}
	}
	s := m.all[c]
	low, high := flat.Span(s.Then)
	otherLow, otherHigh := flat.Span(s.Else)
	switch s.Do {
	case api.If:
		areConstant, areSame := low == high && otherLow == otherHigh, low == otherLow
		return !(areConstant && areSame)
	case api.Loop:
		return !(s.Term.Op == api.OpLit && low == high)
	}
	return false
}

// has reports whether there is a dependence.
func (m model) has(d api.Dep) bool {
	last := m.steps + m.vars
	if d.To == last {
		return d.From < m.steps && d.Kind == api.DepControl && m.hasTime(d.From)
	}
	if d.To >= m.steps || d.From == last {
		return false
	}
	s := m.all[d.To]
	switch d.Kind {
	case api.DepData:
		for v := range m.vars {
			if s.Do != api.Release && mentions(s.Term, v) && m.reaches(d.From, v, d.To) {
				return true
			}
		}
	case api.DepControl:
		return d.From < m.steps && (m.isInside(d.From, d.To) || d.From == d.To && s.Do == api.Loop)
	case api.DepRelease:
		return d.From >= m.steps && s.Do == api.Release && mentions(m.f.Hatches[s.N].Term, d.From-m.steps)
	}
	return false
}

// graph returns the dependence graph: all dependences that there are, in their order.
func (m model) graph() api.Pdg {
	d := api.Pdg{Steps: m.steps, Vars: m.vars}
	for from := range m.steps + m.vars + 1 {
		for to := range m.steps + m.vars + 1 {
			for kind := api.DepData; kind <= api.DepRelease; kind++ {
				if dep := (api.Dep{From: from, To: to, Kind: kind}); m.has(dep) {
					d.Deps = append(d.Deps, dep)
				}
			}
		}
	}
	return d
}

// closure says which node (the second index) depends on which one (the first index), by dependences of these kinds.
func closure(d api.Pdg, kinds ...api.DepKind) [][]bool {
	rows := make([][]bool, d.Steps+d.Vars+1)
	for i := range rows {
		rows[i] = make([]bool, len(rows))
		rows[i][i] = true
	}
	for _, dep := range d.Deps {
		if slices.Contains(kinds, dep.Kind) {
			rows[dep.From][dep.To] = true
		}
	}
	for by := range rows {
		for from := range rows {
			for to := range rows {
				rows[from][to] = rows[from][to] || rows[from][by] && rows[by][to]
			}
		}
	}
	return rows
}

// checkModel returns what Check returns.
func checkModel(d api.Pdg) api.Code {
	if d.Steps < 0 || d.Steps > 1024 || d.Vars < 0 || d.Vars > 64 {
		return api.ErrRange
	}
	for i, dep := range d.Deps {
		last := d.Steps + d.Vars
		if dep.From < 0 || dep.From > last || dep.To < 0 || dep.To > last {
			return api.ErrRange
		}
		if dep.Kind != api.DepData && dep.Kind != api.DepControl && dep.Kind != api.DepRelease {
			return api.ErrArgument
		}
		if i == 0 {
			continue
		}
		earlier := d.Deps[i-1]
		if slices.Compare([]int{earlier.From, earlier.To, int(earlier.Kind)}, []int{dep.From, dep.To, int(dep.Kind)}) >= 0 {
			return api.ErrOrder
		}
	}
	return api.OK
}

// sourcesModel returns the inputs, and the hatches of the Releases, on which a node depends other than through releases.
func (m model) sourcesModel(direct [][]bool, node int) (ins, released []int) {
	for v, variable := range m.f.Vars {
		if variable.Kind != api.Local && direct[m.steps+v][node] {
			ins = append(ins, v)
		}
	}
	for h := range m.f.Hatches {
		for i := range m.steps {
			if s := m.all[i]; s.Do == api.Release && s.N == h && direct[i][node] {
				released = append(released, h)
				break
			}
		}
	}
	return ins, released
}
