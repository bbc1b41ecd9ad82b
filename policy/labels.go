package policy

import (
	"slices"
	"strings"

	"keyhole/api"
	"keyhole/flat"
	"keyhole/lattice"
)

// Inputs returns the level of each variable of f; of a local variable the least level.
func Inputs(f api.Flat, p api.Policy) ([]int, api.Code) {
	known, code := lattices(f, p)
	if code != api.OK {
		return nil, code
	}
	for _, label := range p.Inputs {
		isCovered := func(v api.Var) bool { return v.Kind != api.Local && covers(label, v) }
		if !slices.ContainsFunc(f.Vars, isCovered) {
			return nil, api.ErrName
		}
	}
	var levels []int
	for _, v := range f.Vars {
		levels = append(levels, levelOf(v, p.Inputs, known))
	}
	return levels, api.OK
}

// Hatches returns the level to which each hatch of f may be released, -1 if it must not be released.
func Hatches(f api.Flat, p api.Policy) ([]int, api.Code) {
	if _, code := lattices(f, p); code != api.OK {
		return nil, code
	}
	given := map[string]int{}
	for _, label := range p.Hatches {
		hasName := func(h api.Hatch) bool { return h.Name == label.Name }
		if !slices.ContainsFunc(f.Hatches, hasName) {
			return nil, api.ErrName
		}
		given[label.Name] = label.Level
	}
	var levels []int
	for _, h := range f.Hatches {
		level, ok := given[h.Name]
		if !ok {
			level = -1
		}
		levels = append(levels, level)
	}
	return levels, api.OK
}

// Visible reports of each variable of f whether it is an input that the observer may see.
func Visible(f api.Flat, p api.Policy) ([]bool, api.Code) {
	levels, code := Inputs(f, p)
	if code != api.OK {
		return nil, code
	}
	visible := observed(p, levels)
	for i, v := range f.Vars {
		visible[i] = visible[i] && v.Kind != api.Local
	}
	return visible, api.OK
}

// Released reports of each hatch of f whether it may be released to the observer.
func Released(f api.Flat, p api.Policy) ([]bool, api.Code) {
	levels, code := Hatches(f, p)
	if code != api.OK {
		return nil, code
	}
	return observed(p, levels), api.OK
}

// observed reports of each number whether it is a level that is below or equal to that of the observer of a valid policy.
func observed(p api.Policy, levels []int) []bool {
	known, _ := check(p)
	var list []bool
	for _, level := range levels {
		list = append(list, known.Below(level, p.Observer))
	}
	return list
}

// lattices returns the lattice of the levels of p, or ErrArgument if p or f is not valid.
func lattices(f api.Flat, p api.Policy) (*lattice.Lattice, api.Code) {
	known, code := check(p)
	if code != api.OK || flat.Check(f) != api.OK {
		return nil, api.ErrArgument
	}
	return known, api.OK
}

// covers reports whether a label is for a variable: for one with its name, or for a component of what has its name.
func covers(label api.Label, v api.Var) bool {
	return v.Name == label.Name || strings.HasPrefix(v.Name, label.Name+".")
}

// levelOf returns the level of a variable. The longest name of a label says most about it.
func levelOf(v api.Var, labels []api.Label, known *lattice.Lattice) int {
	if v.Kind == api.Local {
		return known.Bottom()
	}
	best := api.Label{Level: known.Bottom()}
	if v.Kind == api.Secret {
		best.Level = known.Top()
	}
	for _, label := range labels {
		if covers(label, v) && len(label.Name) > len(best.Name) {
			best = label
		}
	}
	return best.Level
}
