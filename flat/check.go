package flat

import (
	"keyhole/api"
	"keyhole/domain"
)

// counter counts the nodes of a program, until it is clear that there are too many of them or that they are nested too deeply.
// So it comes to an end soon, whatever the program is. Its methods report whether the program is within the limits so far.
type counter struct {
	nodes int
}

func (c *counter) node(depth int) bool {
	c.nodes++
	return c.nodes <= api.MaxNodes && depth <= api.MaxDepth
}

func (c *counter) program(f api.Flat) bool {
	if len(f.Vars) > api.MaxVars || len(f.Hatches) > api.MaxHatches {
		return false
	}
	for _, h := range f.Hatches {
		if !c.term(h.Term, 1) {
			return false
		}
	}
	return c.steps(f.Body, 1)
}

func (c *counter) steps(list []api.Step, depth int) bool {
	for _, s := range list {
		if !c.node(depth) || !c.term(s.Term, 1) || !c.steps(s.Then, depth+1) || !c.steps(s.Else, depth+1) {
			return false
		}
	}
	return true
}

func (c *counter) term(t api.Term, depth int) bool {
	if !c.node(depth) {
		return false
	}
	for _, kid := range t.Kids {
		if !c.term(kid, depth+1) {
			return false
		}
	}
	return true
}

// checkVars returns the code of the first error of variables, their number apart.
func checkVars(vars []api.Var) api.Code {
	earlier := map[string]bool{}
	for _, v := range vars {
		if code := checkVar(v, earlier[v.Name]); code != api.OK {
			return code
		}
		earlier[v.Name] = true
	}
	for _, kind := range []api.Kind{api.Secret, api.Public, api.Random} {
		space, code := domain.Space(vars, kind)
		if code != api.OK || kind == api.Random && space > api.MaxCoins {
			return api.ErrLimit
		}
	}
	return api.OK
}

func checkVar(v api.Var, isTwin bool) api.Code {
	switch {
	case !isName(v.Name):
		return api.ErrName
	case isTwin:
		return api.ErrDuplicate
	case v.Kind < api.Local || v.Kind > api.Random:
		return api.ErrArgument
	case !isInterval(v.Low, v.High):
		return api.ErrRange
	case v.Kind == api.Local && (v.Init < v.Low || v.Init > v.High), v.Kind != api.Local && v.Init != 0:
		return api.ErrRange
	}
	return api.OK
}

// isName reports whether s is a name of a flat program.
func isName(s string) bool {
	for i, c := range []byte(s) {
		isLetter := c >= 'a' && c <= 'z'
		isOther := c >= '0' && c <= '9' || c == '.' || c == '_'
		if !isLetter && (i == 0 || !isOther) {
			return false
		}
	}
	return s != "" && len(s) <= api.MaxFlatName
}

// isInterval reports whether variables may have the bounds.
func isInterval(low, high int) bool {
	return low <= high && low >= -api.MaxInt && high <= api.MaxInt
}

func checkHatches(f api.Flat) api.Code {
	isInput := func(i int) bool { return anyOf(f.Vars)(i) && f.Vars[i].Kind != api.Local }
	earlier := map[string]bool{}
	for _, h := range f.Hatches {
		switch {
		case !isName(h.Name):
			return api.ErrName
		case earlier[h.Name]:
			return api.ErrDuplicate
		case !isInterval(h.Low, h.High):
			return api.ErrRange
		}
		if code := checkTerm(f.Vars, h.Term, isInput); code != api.OK {
			return code
		}
		earlier[h.Name] = true
	}
	return api.OK
}

// checkSteps returns the code of the first error of steps and of the steps inside them, where isBody says whether they are
// the Body of the program itself.
func checkSteps(f api.Flat, list []api.Step, isBody bool) api.Code {
	for i, s := range list {
		isLast := isBody && i == len(list)-1
		if code := checkStep(f, s, isLast); code != api.OK {
			return code
		}
		for _, inside := range [...][]api.Step{s.Then, s.Else} {
			if code := checkSteps(f, inside, false); code != api.OK {
				return code
			}
		}
	}
	return api.OK
}

func checkStep(f api.Flat, s api.Step, isLast bool) api.Code {
	switch {
	case !isStep(f, s, isLast):
		return api.ErrArgument
	case !isInRange(s):
		return api.ErrRange
	}
	return checkTerm(f.Vars, s.Term, anyOf(f.Vars))
}
