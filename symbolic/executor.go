package symbolic

import (
	"slices"

	"keyhole/api"
	"keyhole/diagram"
	"keyhole/flat"
	"keyhole/mtbdd"
	"keyhole/outline"
)

// state is what all runs together have at one time: where a run has a number, this is the diagram of the numbers of all runs.
type state struct {
	values  map[int]api.Mtbdd // of the variables
	time    api.Mtbdd
	outputs api.Mtbdd // the numbers of the lists of outputs
}

// executor runs a program for all encodings at once. Its methods take a guard, which is 1 for the encodings whose runs go on with a step, and 0 for those whose runs do not.
type executor struct {
	layout
	state
	program api.Flat
	timed   bool             // the observer sees the time, which is 0 otherwise
	lists   [][]int          // of outputs, by their numbers
	longer  map[api.Pair]int // the number of the list that another one, with a number, and a further output make
	run     []int            // room for the values of all variables in one run
}

// execute returns the executor at the end of all runs under a view.
func execute(f api.Flat, v api.View) (*executor, api.Code) {
	if code := flat.Check(f); code != api.OK {
		return nil, code
	}
	if code := checkValues(f.Vars, api.Public, v.Public); code != api.OK {
		return nil, code
	}
	l := layoutOf(f)
	if code := l.code(); code != api.OK {
		return nil, code
	}
	e := start(f, l, v)
	e.steps(f.Body, l.constant(1))
	return e, api.OK
}

// checkValues returns OK if values are some for the variables of a kind.
func checkValues(vars []api.Var, kind api.Kind, values []int) api.Code {
	var own []api.Var
	for _, v := range vars {
		if v.Kind == kind {
			own = append(own, v)
		}
	}
	if len(values) != len(own) {
		return api.ErrMismatch
	}
	for i, v := range own {
		if values[i] < v.Low || values[i] > v.High {
			return api.ErrRange
		}
	}
	return api.OK
}

// start returns the executor before the first step.
func start(f api.Flat, l layout, v api.View) *executor {
	begin := state{map[int]api.Mtbdd{}, l.constant(0), l.constant(0)}
	e := &executor{layout: l, state: begin, program: f, timed: v.Timed, lists: [][]int{nil}, longer: map[api.Pair]int{}}
	public := v.Public
	for i, v := range f.Vars {
		e.run = append(e.run, v.Low)
		switch v.Kind {
		case api.Local:
			e.values[i] = l.constant(v.Init)
		case api.Public:
			e.values[i] = l.constant(public[0])
			public = public[1:]
		}
	}
	for _, s := range l.slots {
		e.values[s.Var] = l.input(s)
	}
	return e
}

// isNever reports whether a guard is 0 for all encodings.
func isNever(guard api.Mtbdd) bool {
	return len(guard.Leaves) == 1 && guard.Leaves[0] == 0
}

func (e *executor) steps(list []api.Step, guard api.Mtbdd) {
	if isNever(guard) {
		return
	}
	for _, s := range list {
		e.step(s, guard)
	}
}

func (e *executor) step(s api.Step, guard api.Mtbdd) {
	if s.Do == api.Loop {
		e.loop(s, guard)
		return
	}
	e.spend(s.Cost, guard)
	switch s.Do {
	case api.Assign:
		e.assign(s.Var, s.Term, guard)
	case api.Output:
		e.outputs = e.merge(guard, e.outputs, s.Term, e.extended)
	case api.If:
		then := e.where(s.Term, guard)
		other, _ := mtbdd.Apply(mtbdd.Minus, guard, then)
		e.steps(s.Then, then)
		e.steps(s.Else, other)
	case api.Release:
		// The value of a hatch is that of the start at all times, as no input is ever assigned.
		h := e.program.Hatches[s.N]
		e.assign(s.Var, clamped(h.Term, h.Low, h.High), guard)
	case api.Settle:
		e.wait(guard, func(time int) int { return flat.Settled(s.Bounds, time) })
	}
}

func (e *executor) loop(s api.Step, guard api.Mtbdd) {
	for range s.N {
		e.spend(s.Cost, guard)
		guard = e.where(s.Term, guard)
		if isNever(guard) {
			return
		}
		e.steps(s.Then, guard)
	}
}

// where returns the guard that is left if a term must not be 0.
func (e *executor) where(t api.Term, guard api.Mtbdd) api.Mtbdd {
	return e.merge(guard, guard, t, func(_, x int) int { return truth(x != 0) })
}

// spend adds a cost to the times.
func (e *executor) spend(cost int, guard api.Mtbdd) {
	if cost > 0 {
		e.wait(guard, func(time int) int { return time + cost })
	}
}

// wait lets the times become later.
func (e *executor) wait(guard api.Mtbdd, later func(time int) int) {
	if e.timed {
		e.time = e.merge(guard, e.time, api.Term{}, func(time, _ int) int { return later(time) })
	}
}

// assign gives a variable the value that is nearest to that of a term.
func (e *executor) assign(i int, t api.Term, guard api.Mtbdd) {
	v := e.program.Vars[i]
	e.values[i] = e.merge(guard, e.values[i], t, func(_, x int) int { return min(max(x, v.Low), v.High) })
}

// clamped returns a term for the number from low to high that is nearest to the value of another one.
func clamped(t api.Term, low, high int) api.Term {
	atLeast := api.Term{Op: api.OpMax, Kids: []api.Term{t, {N: low}}}
	return api.Term{Op: api.OpMin, Kids: []api.Term{atLeast, {N: high}}}
}

// extended returns the number of the list that the list with a number and a further output make.
func (e *executor) extended(list, output int) int {
	p := api.Pair{First: list, Second: output}
	i, ok := e.longer[p]
	if !ok {
		i = len(e.lists)
		e.longer[p] = i
		e.lists = append(e.lists, append(slices.Clone(e.lists[list]), output))
	}
	return i
}

// merge returns the diagram that has, where guard is 1, what op makes of the old value and of the value of a term, and elsewhere the old value.
func (e *executor) merge(guard, old api.Mtbdd, t api.Term, op func(old, x int) int) api.Mtbdd {
	reads := outline.Variables(t)
	parts := []api.Mtbdd{guard, old}
	for _, i := range reads {
		parts = append(parts, e.values[i])
	}
	merged, _ := diagram.Join(func(l []int) int {
		if l[0] == 0 {
			return l[1]
		}
		return op(l[1], e.eval(t, reads, l[2:]))
	}, parts...)
	return merged
}

// eval returns the value of a term where the variables that it reads have values.
func (e *executor) eval(t api.Term, reads, values []int) int {
	for i, v := range reads {
		e.run[v] = values[i]
	}
	x, _ := flat.Eval(e.program.Vars, e.run, t)
	return x
}

// seen returns which observation each encoding gives.
func (e *executor) seen() api.Map {
	paired, pairs, _ := mtbdd.Pair(e.outputs, e.time)
	var m api.Map
	for _, p := range pairs {
		m.Seen = append(m.Seen, e.observation(p))
	}
	slices.SortFunc(m.Seen, flat.Compare)
	places := make([]int, len(pairs))
	for i, p := range pairs {
		places[i], _ = slices.BinarySearchFunc(m.Seen, e.observation(p), flat.Compare)
	}
	m.Diagram, _ = diagram.Join(func(l []int) int {
		if l[0] == 0 {
			return -1
		}
		return places[l[1]]
	}, e.domain(), paired)
	return m
}

// observation returns the one with a pair of the number of its outputs and its time.
func (e *executor) observation(p api.Pair) api.Observation {
	return api.Observation{Outputs: slices.Clone(e.lists[p.First]), Time: p.Second}
}
