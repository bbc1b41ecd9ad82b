package cfg

import (
	"keyhole/api"
	"keyhole/flat"
)

// Run runs f along its control-flow graph g.
func Run(f api.Flat, g api.Cfg, in api.Inputs) (api.Observation, api.Code) {
	w, code := walk(f, g, in)
	return w.seen, code
}

// Walk returns the nodes of g that a run of f passes, from the entry to the exit.
func Walk(f api.Flat, g api.Cfg, in api.Inputs) ([]int, api.Code) {
	w, code := walk(f, g, in)
	return w.path, code
}

// walker is a walk of a valid program along its control-flow graph.
type walker struct {
	program api.Flat
	steps   []api.Step  // in preorder
	values  []int       // of the variables
	rounds  map[int]int // the counters of the Loops that have been entered
	path    []int
	seen    api.Observation
}

// walk returns the walker at the end of the walk.
func walk(f api.Flat, g api.Cfg, in api.Inputs) (walker, api.Code) {
	if code := Check(f, g); code != api.OK {
		return walker{}, code
	}
	// Without its steps a program ends with the values at the start.
	values, code := flat.Final(api.Flat{Vars: f.Vars}, in)
	if code != api.OK {
		return walker{}, code
	}
	w := walker{program: f, steps: preorder(f.Body), values: values, rounds: map[int]int{}}
	for node := 0; node != none; node = w.pass(g.Nodes[node]) {
		w.path = append(w.path, node)
	}
	return w, api.OK
}

// pass does what n says, and returns the node at which the walk goes on, or none at the exit.
func (w *walker) pass(n api.Node) int {
	switch n.Kind {
	case api.NodeStep:
		w.execute(w.steps[n.At])
	case api.NodeEnter:
		w.rounds[n.At] = 0
	case api.NodeTest:
		return w.decide(n)
	case api.NodeHead:
		if w.rounds[n.At] == w.steps[n.At].N {
			return n.Other
		}
		w.rounds[n.At]++
		return w.decide(n)
	}
	return n.Next
}

// decide returns the node to which the term of an If or a Loop leads.
func (w *walker) decide(n api.Node) int {
	s := w.steps[n.At]
	w.seen.Time += s.Cost
	if w.value(s.Term) == 0 {
		return n.Other
	}
	return n.Next
}

// execute executes a step that has no steps inside.
func (w *walker) execute(s api.Step) {
	w.seen.Time += s.Cost
	switch s.Do {
	case api.Assign:
		w.assign(s.Var, w.value(s.Term))
	case api.Output:
		w.seen.Outputs = append(w.seen.Outputs, w.value(s.Term))
	case api.Release:
		// A hatch is over inputs, which still have their values at the start.
		h := w.program.Hatches[s.N]
		w.assign(s.Var, clamp(w.value(h.Term), h.Low, h.High))
	case api.Settle:
		w.seen.Time = flat.Settled(s.Bounds, w.seen.Time)
	}
}

// value returns the value of a term of the program.
func (w *walker) value(t api.Term) int {
	value, _ := flat.Eval(w.program.Vars, w.values, t)
	return value
}

// assign gives a variable the value that is nearest to the number.
func (w *walker) assign(i, number int) {
	v := w.program.Vars[i]
	w.values[i] = clamp(number, v.Low, v.High)
}

func clamp(n, low, high int) int {
	return min(max(n, low), high)
}
