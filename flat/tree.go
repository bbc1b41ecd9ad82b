package flat

import (
	"slices"

	"keyhole/api"
)

// Equal reports whether f and g are equal.
func Equal(f, g api.Flat) bool {
	return slices.Equal(f.Vars, g.Vars) && slices.EqualFunc(f.Hatches, g.Hatches, equalHatch) && slices.EqualFunc(f.Body, g.Body, equalStep)
}

func equalHatch(a, b api.Hatch) bool {
	return a.Name == b.Name && a.Low == b.Low && a.High == b.High && equalTerm(a.Term, b.Term)
}

func equalStep(a, b api.Step) bool {
	return a.Do == b.Do && a.Cost == b.Cost && a.Var == b.Var && a.N == b.N && equalTerm(a.Term, b.Term) &&
		slices.EqualFunc(a.Then, b.Then, equalStep) && slices.EqualFunc(a.Else, b.Else, equalStep) && slices.Equal(a.Bounds, b.Bounds)
}

func equalTerm(a, b api.Term) bool {
	return a.Op == b.Op && a.N == b.N && slices.EqualFunc(a.Kids, b.Kids, equalTerm)
}

// Size returns the number of steps of f.
func Size(f api.Flat) int {
	size := 0
	walk(f.Body, func(api.Step) bool {
		size++
		return true
	})
	return size
}

// walk visits steps in preorder, until a visit says that no other one is wanted. It reports whether none has said so.
func walk(steps []api.Step, visit func(s api.Step) bool) bool {
	for _, s := range steps {
		if !visit(s) || !walk(s.Then, visit) || !walk(s.Else, visit) {
			return false
		}
	}
	return true
}

// At returns the step of f that has the index i in preorder.
func At(f api.Flat, i int) (api.Step, api.Code) {
	var found api.Step
	next := 0
	isMissing := walk(f.Body, func(s api.Step) bool {
		if next == i {
			found = copied(s)
			return false
		}
		next++
		return true
	})
	if isMissing {
		return api.Step{}, api.ErrRange
	}
	return found, api.OK
}

// Remove returns f without the step that has the index i in preorder, and without the steps inside it.
func Remove(f api.Flat, i int) (api.Flat, api.Code) {
	if i < 0 || i >= Size(f) {
		return api.Flat{}, api.ErrRange
	}
	removed := api.Flat{Vars: slices.Clone(f.Vars)}
	for _, h := range f.Hatches {
		h.Term = copiedTerm(h.Term)
		removed.Hatches = append(removed.Hatches, h)
	}
	next := 0
	removed.Body = selected(f.Body, func() bool {
		next++
		return next != i+1
	})
	return removed, api.OK
}

// selected returns copies of the steps that keep chooses. It is asked for each step in preorder, but for those inside a step
// that it does not choose.
func selected(steps []api.Step, keep func() bool) []api.Step {
	var result []api.Step
	for _, s := range steps {
		if !keep() {
			continue
		}
		s.Term = copiedTerm(s.Term)
		s.Then = selected(s.Then, keep)
		s.Else = selected(s.Else, keep)
		s.Bounds = slices.Clone(s.Bounds)
		result = append(result, s)
	}
	return result
}

// copied returns s in memory of its own.
func copied(s api.Step) api.Step {
	return selected([]api.Step{s}, func() bool { return true })[0]
}

// copiedTerm returns t in memory of its own.
func copiedTerm(t api.Term) api.Term {
	kids := t.Kids
	t.Kids = nil
	for _, kid := range kids {
		t.Kids = append(t.Kids, copiedTerm(kid))
	}
	return t
}
