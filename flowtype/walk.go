package flowtype

import (
	"slices"

	"keyhole/api"
	"keyhole/lattice"
	"keyhole/outline"
	"keyhole/policy"
)

// walker goes through the steps of a valid program, as often as its loops ask for, and keeps the levels of the last time.
type walker struct {
	program  api.Flat
	rules    api.Policy
	levels   *lattice.Lattice
	places   []outline.Place
	read     [][]int // the variables of the term of each step
	hatches  []int   // the levels of the hatches
	next     int     // the number of the step that is next
	before   [][]int // the state before each step
	counters []int   // the level of the program counter at each step
	final    []int   // the state at the end
}

// analyse returns the walker that has gone through f.
func analyse(f api.Flat, p api.Policy) (walker, api.Code) {
	start, code := policy.Inputs(f, p)
	if code != api.OK {
		return walker{}, code
	}
	hatches, code := policy.Hatches(f, p)
	if code != api.OK {
		return walker{}, code
	}
	w := walker{program: f, rules: p, places: outline.Places(f), hatches: hatches}
	w.levels, _ = lattice.New(p.Levels, p.Order)
	w.counters = make([]int, len(w.places))
	for _, s := range w.places {
		if s.Do == api.Release && hatches[s.N] < 0 {
			return walker{}, api.ErrPolicy
		}
		w.read = append(w.read, outline.Variables(s.Term))
		w.before = append(w.before, slices.Repeat([]int{w.levels.Bottom()}, len(start)))
	}
	w.final = w.steps(f.Body, start, w.levels.Bottom())
	return w, api.OK
}

// join returns the least level that is above or equal to both levels.
func (w *walker) join(a, b int) int {
	level, _ := w.levels.Join(a, b)
	return level
}

// joinStates returns the join of both states, in the memory of the first one.
func (w *walker) joinStates(state, other []int) []int {
	for v, level := range other {
		state[v] = w.join(state[v], level)
	}
	return state
}

// reached returns the join of the level of the program counter at a step and the level of its term.
func (w *walker) reached(at int) int {
	level := w.counters[at]
	for _, v := range w.read[at] {
		level = w.join(level, w.before[at][v])
	}
	return level
}

// steps returns the state after the list of steps. The state before it is overwritten.
func (w *walker) steps(list []api.Step, state []int, counter int) []int {
	for _, s := range list {
		state = w.step(s, state, counter)
	}
	return state
}

// step returns the state after the next step.
func (w *walker) step(s api.Step, state []int, counter int) []int {
	at := w.next
	w.next++
	w.counters[at] = counter
	if s.Do == api.Loop {
		return w.loop(s, at, state)
	}
	copy(w.before[at], state)
	switch s.Do {
	case api.Assign:
		state[s.Var] = w.reached(at)
	case api.Release:
		state[s.Var] = w.join(counter, w.hatches[s.N])
	case api.If:
		inside := w.reached(at)
		state = w.steps(s.Then, state, inside)
		return w.joinStates(state, w.steps(s.Else, slices.Clone(w.before[at]), inside))
	}
	return state
}

// loop returns the state before and after each round of the loop s, which has the number at, from a state before it.
func (w *walker) loop(s api.Step, at int, state []int) []int {
	// What was found for lower states, in an earlier round of a loop around this one, is below what is looked for: starting
	// from there keeps the number of rounds small, however deep loops are nested.
	head := w.joinStates(w.before[at], state)
rounds:
	for {
		w.next = at + 1
		after := w.steps(s.Then, slices.Clone(head), w.reached(at))
		for v, level := range after {
			if !w.levels.Below(level, head[v]) {
				w.joinStates(head, after)
				continue rounds
			}
		}
		return slices.Clone(head)
	}
}

// typing returns what the levels that were found mean for the observer.
func (w *walker) typing() api.Typing {
	t := api.Typing{Time: w.levels.Bottom(), Final: w.final}
	for at, s := range w.places {
		level := w.reached(at)
		if s.Do == api.Output && !w.isSeen(level) {
			t.Faults = append(t.Faults, at)
		}
		if !outline.HasOneTime(s.Step) {
			t.Time = w.join(t.Time, level)
		}
	}
	if outline.IsSettled(w.program) {
		t.Time = w.levels.Bottom()
	}
	t.Accepted = len(t.Faults) == 0 && (!w.rules.Timed || w.isSeen(t.Time))
	return t
}

// isSeen reports whether the observer may see what has this level.
func (w *walker) isSeen(level int) bool {
	return w.levels.Below(level, w.rules.Observer)
}
