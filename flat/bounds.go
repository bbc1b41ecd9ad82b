package flat

import "keyhole/api"

// work is an upper bound on what a run of steps does: the steps that it executes, its outputs, and its time.
type work struct {
	steps, outputs, time int
}

func (w work) isWithinLimits() bool {
	return w.steps <= api.MaxRun && w.outputs <= api.MaxOutputs && w.time <= api.MaxTime
}

// plus returns the sum, in which a number above its limit counts as the least one: sums over rounds may be too large for an
// int otherwise.
func (w work) plus(other work) work {
	return work{
		min(w.steps+other.steps, api.MaxRun+1),
		min(w.outputs+other.outputs, api.MaxOutputs+1),
		min(w.time+other.time, api.MaxTime+1),
	}
}

// times returns the work of at most MaxRun rounds, each of which is a sum.
func (w work) times(rounds int) work {
	return work{w.steps * rounds, w.outputs * rounds, w.time * rounds}
}

// orMore returns the greater numbers of both.
func (w work) orMore(other work) work {
	return work{max(w.steps, other.steps), max(w.outputs, other.outputs), max(w.time, other.time)}
}

// workOf returns the work of steps whose numbers are in their ranges.
func workOf(list []api.Step) work {
	var total work
	for _, s := range list {
		total = total.plus(workOfStep(s))
	}
	return total
}

func workOfStep(s api.Step) work {
	own := work{steps: 1, time: s.Cost}
	switch s.Do {
	case api.Output:
		own.outputs = 1
	case api.If:
		return own.plus(workOf(s.Then).orMore(workOf(s.Else)))
	case api.Loop:
		// The cost is that of each round.
		rounds := own.plus(workOf(s.Then)).times(s.N)
		return work{steps: 1}.plus(rounds)
	}
	return own
}

// Span returns the least and the greatest time that the rules give to steps.
func Span(steps []api.Step) (low, high int) {
	for _, s := range steps {
		least, greatest := spanOfStep(s)
		low = min(low+least, api.MaxTime+1)
		high = min(high+greatest, api.MaxTime+1)
	}
	return low, high
}

func spanOfStep(s api.Step) (low, high int) {
	cost := clamp(s.Cost, 0, api.MaxTime+1)
	low, high = Span(s.Then)
	switch s.Do {
	case api.If:
		otherLow, otherHigh := Span(s.Else)
		return cost + min(low, otherLow), cost + max(high, otherHigh)
	case api.Loop:
		return spanOfLoop(s, cost, cost+low, cost+high)
	}
	return cost, cost
}

// spanOfLoop returns the least and the greatest time of a loop whose condition costs so much, and whose rounds take a time
// from low to high.
func spanOfLoop(s api.Step, cost, low, high int) (int, int) {
	rounds := clamp(s.N, 0, api.MaxRun)
	first := cost * min(rounds, 1) // of the first evaluation, if there is one
	switch {
	case s.Term.Op != api.OpLit:
		return first, rounds * high
	case s.Term.N == 0:
		return first, first
	}
	return rounds * low, rounds * high
}
