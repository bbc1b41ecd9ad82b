package ddnnf_test

import (
	"slices"

	"keyhole/api"
	"keyhole/sample"
)

// checkModel returns the first error by the list of the chapter.
func checkModel(d api.Dnnf) api.Code {
	switch {
	case d.Vars < 0:
		return api.ErrArgument
	case d.Vars > 40, len(d.Parts) > 16384:
		return api.ErrLimit
	case len(d.Parts) == 0:
		return api.ErrArgument
	}
	for i, p := range d.Parts {
		for _, test := range []struct {
			fails bool
			code  api.Code
		}{
			{p.Kind < 0 || p.Kind > 4, api.ErrArgument},
			{p.Kind <= 2 && len(p.Kids) > 0, api.ErrArgument},
			{p.Lit != 0 && p.Kind != 2 && p.Kind != 4, api.ErrArgument},
			{p.Kind == 4 && len(p.Kids) != 2, api.ErrArgument},
			{p.Kind == 2 && (p.Lit == 0 || p.Lit > d.Vars || p.Lit < -d.Vars), api.ErrRange},
			{p.Kind == 4 && (p.Lit < 1 || p.Lit > d.Vars), api.ErrRange},
			{slices.ContainsFunc(p.Kids, func(kid int) bool { return kid < 0 || kid >= i }), api.ErrOrder},
		} {
			if test.fails {
				return test.code
			}
		}
		all := mentioned(d.Parts[:i])
		for k, kid := range p.Kids {
			if p.Kind == 4 && !isApart(all[kid], []int{p.Lit}) {
				return api.ErrMismatch
			}
			for _, other := range p.Kids[:k] {
				if p.Kind == 3 && !isApart(all[kid], all[other]) {
					return api.ErrMismatch
				}
			}
		}
	}
	return api.OK
}

// valueModel returns the value of a part for an assignment.
func valueModel(parts []api.Part, i int, in []bool) bool {
	switch p := parts[i]; {
	case p.Kind == api.PartLit && p.Lit < 0:
		return !in[-p.Lit-1]
	case p.Kind == api.PartLit:
		return in[p.Lit-1]
	case p.Kind == api.PartAnd:
		for _, kid := range p.Kids {
			if !valueModel(parts, kid, in) {
				return false
			}
		}
		return true
	case p.Kind == api.PartDecide && in[p.Lit-1]:
		return valueModel(parts, p.Kids[1], in)
	case p.Kind == api.PartDecide:
		return valueModel(parts, p.Kids[0], in)
	default:
		return p.Kind == api.PartTrue
	}
}

// modelsOf returns the models in their order.
func modelsOf(d api.Dnnf) [][]bool {
	var all [][]bool
	sample.Assignments(d.Vars, func(in []bool) {
		if valueModel(d.Parts, len(d.Parts)-1, in) {
			all = append(all, slices.Clone(in))
		}
	})
	return all
}

// cheapestModel returns the least cost of one of some models, and the first one with that cost.
func cheapestModel(models [][]bool, no, yes []int) (int, []bool) {
	least := 1 << 60
	var best []bool
	for _, in := range models {
		cost := 0
		for i, v := range in {
			if v {
				cost += yes[i]
			} else {
				cost += no[i]
			}
		}
		if cost < least {
			least, best = cost, in
		}
	}
	return least, best
}

// isSame reports whether two normal forms are equal.
func isSame(a, b api.Dnnf) bool {
	return a.Vars == b.Vars && slices.EqualFunc(a.Parts, b.Parts, func(p, q api.Part) bool {
		return p.Kind == q.Kind && p.Lit == q.Lit && slices.Equal(p.Kids, q.Kids)
	})
}

// copied returns a copy of a normal form.
func copied(d api.Dnnf) api.Dnnf {
	d.Parts = slices.Clone(d.Parts)
	for i := range d.Parts {
		d.Parts[i].Kids = slices.Clone(d.Parts[i].Kids)
	}
	return d
}
