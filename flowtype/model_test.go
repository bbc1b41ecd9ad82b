package flowtype_test

import (
	"slices"

	"keyhole/api"
	"keyhole/flat"
	"keyhole/policy"
	"keyhole/sample"
)

// bits says of each variable whether its level is not below the level that is asked about.
type bits uint64

func (b bits) has(v int) bool { return b>>v&1 == 1 }

func (b bits) with(v int, is bool) bits {
	b &^= 1 << v
	if is {
		b |= 1 << v
	}
	return b
}

// asked answers of one level what is not below it: a join is below a level exactly if all that is joined is.
type asked struct {
	f        api.Flat
	hatches  []bool // whether the level of a hatch is not below it
	before   []bits
	counters []bool
	time     bool
	faults   []int
}

// isTouched reports whether the level of a term is not below the level that is asked about.
func isTouched(t api.Term, state bits) bool {
	return t.Op == api.OpRef && state.has(t.N) || slices.ContainsFunc(t.Kids, func(kid api.Term) bool { return isTouched(kid, state) })
}

// steps returns the state after the steps, of which the first has the number at.
func (m *asked) steps(list []api.Step, at int, state bits, counter bool) bits {
	for _, s := range list {
		state = m.step(s, at, state, counter)
		at += flat.Size(api.Flat{Body: []api.Step{s}})
	}
	return state
}

func (m *asked) step(s api.Step, at int, state bits, counter bool) bits {
	if s.Do == api.Loop {
		state = m.least(s, at, state, counter)
	}
	m.before[at], m.counters[at] = state, counter
	n := counter || isTouched(s.Term, state)
	switch s.Do {
	case api.Assign:
		return state.with(s.Var, n)
	case api.Release:
		return state.with(s.Var, counter || m.hatches[s.N])
	case api.Output:
		if n && !slices.Contains(m.faults, at) {
			m.faults = append(m.faults, at)
		}
	case api.If:
		thenLow, thenHigh := flat.Span(s.Then)
		elseLow, elseHigh := flat.Span(s.Else)
		if !(thenLow == thenHigh && elseLow == elseHigh && thenLow == elseLow) {
			m.time = m.time || n
		}
		return m.steps(s.Then, at+1, state, n) | m.steps(s.Else, at+1+flat.Size(api.Flat{Body: s.Then}), state, n)
	case api.Loop:
		low, high := flat.Span(s.Then)
		if s.Term.Op != api.OpLit || low != high {
			m.time = m.time || n
		}
		m.steps(s.Then, at+1, state, n)
	}
	return state
}

// least returns the least state that is above the given one and above what the steps of the loop s give from it: what all
// such states have in common. Only the locals can differ.
func (m *asked) least(s api.Step, at int, state bits, counter bool) bits {
	least := ^bits(0)
	for i := range 1 << len(sample.Locals()) {
		g := state
		for j, v := range sample.Locals() {
			g |= bits(i>>j&1) << v
		}
		n := counter || isTouched(s.Term, g)
		trial := asked{f: m.f, hatches: m.hatches, before: make([]bits, len(m.before)), counters: make([]bool, len(m.counters))}
		if trial.steps(s.Then, at+1, g, n)|g == g {
			least &= g
		}
	}
	return least
}

// model is what the chapter says of a program and a policy.
type model struct {
	typing   api.Typing
	levels   [][]int
	counters []int
}

// newModel asks about all levels. A level is the least one of those that it is below.
func newModel(f api.Flat, p api.Policy) model {
	start, code := policy.Inputs(f, p)
	hatches, hatchCode := policy.Hatches(f, p)
	if code != api.OK || hatchCode != api.OK {
		panic("the model is of other arguments")
	}
	isNotBelow := func(a, b int) bool {
		is, _ := policy.Below(p, a, b)
		return !is
	}
	var answers []asked
	var finals []bits
	for level := range p.Levels {
		size := flat.Size(f)
		m := asked{f: f, before: make([]bits, size), counters: make([]bool, size)}
		for _, h := range hatches {
			m.hatches = append(m.hatches, isNotBelow(h, level))
		}
		var state bits
		for v, of := range start {
			state = state.with(v, isNotBelow(of, level))
		}
		finals = append(finals, m.steps(f.Body, 0, state, false))
		if last := len(f.Body) - 1; last >= 0 && f.Body[last].Do == api.Settle {
			_, _, time, _ := flat.Bounds(f)
			m.time = m.time && time > f.Body[last].Bounds[0]
		}
		answers = append(answers, m)
	}
	// least returns the level that is above exactly those of which isAbove is false.
	least := func(isNotAbove func(level int) bool) int {
		for level := range p.Levels {
			isLeast := true
			for other := range p.Levels {
				isLeast = isLeast && isNotAbove(other) == isNotBelow(level, other)
			}
			if isLeast {
				return level
			}
		}
		panic("no level")
	}
	var m model
	for at := range flat.Size(f) {
		var row []int
		for v := range f.Vars {
			row = append(row, least(func(level int) bool { return answers[level].before[at].has(v) }))
		}
		m.levels = append(m.levels, row)
		m.counters = append(m.counters, least(func(level int) bool { return answers[level].counters[at] }))
	}
	for v := range f.Vars {
		m.typing.Final = append(m.typing.Final, least(func(level int) bool { return finals[level].has(v) }))
	}
	m.typing.Time = least(func(level int) bool { return answers[level].time })
	m.typing.Faults = answers[p.Observer].faults
	slices.Sort(m.typing.Faults)
	m.typing.Accepted = len(m.typing.Faults) == 0 && !(p.Timed && answers[p.Observer].time)
	return m
}
