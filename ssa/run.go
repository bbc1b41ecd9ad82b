package ssa

import (
	"slices"

	"keyhole/api"
	"keyhole/flat"
)

// machine is a run of a right form.
type machine struct {
	program
	form    api.Ssa
	initial []int       // the values of the variables at the start
	values  []int       // of the versions
	rounds  map[int]int // the counters of the Loops that have been entered
	seen    api.Observation
}

// run returns the observation of the run of the right form s.
func (p program) run(s api.Ssa, in api.Inputs) (api.Observation, api.Code) {
	// Without its steps a program ends with the values with which it began.
	initial, code := flat.Final(api.Flat{Vars: p.flat.Vars}, in)
	if code != api.OK {
		return api.Observation{}, code
	}
	m := machine{program: p, form: s, initial: initial, values: make([]int, len(s.Of)), rounds: map[int]int{}}
	copy(m.values, initial)
	from, node := 0, p.nodes[0].Next
	for p.nodes[node].Kind != api.NodeExit {
		m.join(node, from)
		from, node = node, m.pass(node)
	}
	return m.seen, api.OK
}

// join gives the phis of a node the values that come from another one.
func (m *machine) join(node, from int) {
	at := slices.Index(m.before[node], from)
	// No phi reads what another one of the node gets: they have different variables.
	for _, phi := range m.form.Nodes[node].Phis {
		m.values[phi.Version] = m.values[phi.Args[at]]
	}
}

// pass does what a node says, and returns the node at which the walk goes on.
func (m *machine) pass(node int) int {
	n := m.nodes[node]
	s := m.places[n.At].Step
	switch n.Kind {
	case api.NodeStep:
		m.execute(node, s)
	case api.NodeEnter:
		m.rounds[n.At] = 0
	case api.NodeTest:
		return m.decide(node, s)
	case api.NodeHead:
		if m.rounds[n.At] == s.N {
			return n.Other
		}
		m.rounds[n.At]++
		return m.decide(node, s)
	}
	return n.Next
}

// decide returns the node to which the term of an If or a Loop leads from its node.
func (m *machine) decide(node int, s api.Step) int {
	m.seen.Time += s.Cost
	if m.read(node, s.Term) == 0 {
		return m.nodes[node].Other
	}
	return m.nodes[node].Next
}

// execute executes the step of a NodeStep.
func (m *machine) execute(node int, s api.Step) {
	m.seen.Time += s.Cost
	switch s.Do {
	case api.Assign:
		m.define(node, m.read(node, s.Term))
	case api.Output:
		m.seen.Outputs = append(m.seen.Outputs, m.read(node, s.Term))
	case api.Release:
		h := m.flat.Hatches[s.N]
		m.define(node, clamp(m.eval(m.initial, h.Term), h.Low, h.High))
	case api.Settle:
		m.seen.Time = flat.Settled(s.Bounds, m.seen.Time)
	}
}

// read returns the value of a term by the versions that a node uses.
func (m *machine) read(node int, t api.Term) int {
	values := slices.Clone(m.initial)
	for _, use := range m.form.Nodes[node].Uses {
		values[use.Var] = m.values[use.Version]
	}
	return m.eval(values, t)
}

// eval returns the value of a term of the program where the variables have the values.
func (m *machine) eval(values []int, t api.Term) int {
	value, _ := flat.Eval(m.flat.Vars, values, t)
	return value
}

// define gives the version that a node defines the value of its variable that is nearest to the number.
func (m *machine) define(node, number int) {
	v := m.flat.Vars[m.defines[node]]
	m.values[m.form.Nodes[node].Def] = clamp(number, v.Low, v.High)
}

func clamp(n, low, high int) int {
	return min(max(n, low), high)
}
