package typecheck

import "keyhole/api"

// isWithinLimits reports whether a program with the known declarations and the body keeps to the limits.
func (c *checker) isWithinLimits(body []api.Stmt) bool {
	count := 0
	for _, kind := range []api.DeclKind{api.SecretDecl, api.PublicDecl, api.RandomDecl, api.VarDecl} {
		count += len(c.scalars[kind])
	}
	w := c.workOf(body)
	return count <= api.MaxVars && len(c.hatches) <= api.MaxHatches &&
		vectors(c.scalars[api.SecretDecl]) <= api.MaxSpace && vectors(c.scalars[api.PublicDecl]) <= api.MaxSpace &&
		vectors(c.scalars[api.RandomDecl]) <= api.MaxCoins &&
		w.steps <= api.MaxRun && w.outputs <= api.MaxOutputs
}

// vectors returns how many vectors of values the scalars have, or MaxSpace + 1 if there are more: their number may be too
// large for an int.
func vectors(scalars []api.Scalar) int {
	total := 1
	for _, s := range scalars {
		total = min(total*(s.High-s.Low+1), api.MaxSpace+1)
	}
	return total
}

// work is an upper bound on what a run of statements does: the statements that it executes, and the outputs that it gives.
type work struct {
	steps, outputs int
}

// plus returns the sum, in which a number above MaxRun counts as MaxRun + 1: sums over rounds and calls may be too large for
// an int otherwise.
func (w work) plus(other work) work {
	return work{min(w.steps+other.steps, api.MaxRun+1), min(w.outputs+other.outputs, api.MaxRun+1)}
}

// times returns the work of at most MaxRun rounds, each of which is a sum.
func (w work) times(rounds int) work {
	return work{w.steps * rounds, w.outputs * rounds}
}

// orMore returns the greater numbers of both.
func (w work) orMore(other work) work {
	return work{max(w.steps, other.steps), max(w.outputs, other.outputs)}
}

// workOf returns the work of statements that call known functions.
func (c *checker) workOf(list []api.Stmt) work {
	var total work
	for _, s := range list {
		total = total.plus(work{steps: 1}).plus(c.workWithin(s))
	}
	return total
}

// workWithin returns the work of a statement beside its own step.
func (c *checker) workWithin(s api.Stmt) work {
	round := work{steps: 1}
	switch s.Verb {
	case api.OutputStmt:
		return work{outputs: 1}
	case api.IfStmt:
		return c.workOf(s.Then).orMore(c.workOf(s.Else))
	case api.WhileStmt:
		return round.plus(c.workOf(s.Then)).times(s.N)
	case api.ForStmt:
		return round.plus(c.workOf(s.Then)).times(s.High - s.Low + 1)
	case api.CallStmt:
		return c.functions[s.Name].work
	}
	return work{}
}
