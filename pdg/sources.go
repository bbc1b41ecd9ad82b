package pdg

import (
	"slices"

	"keyhole/api"
	"keyhole/outline"
	"keyhole/policy"
)

// Sources returns the inputs on which a node of f depends other than through releases, and the hatches that are released by
// steps on which it depends so.
func Sources(f api.Flat, node int) ([]int, []int, api.Code) {
	d, code := withoutReleases(f)
	if code != api.OK {
		return nil, nil, code
	}
	met, code := Back(d, []int{node})
	if code != api.OK {
		return nil, nil, code
	}
	var inputs, hatches []int
	for v, variable := range f.Vars {
		if variable.Kind != api.Local && met[d.Steps+v] {
			inputs = append(inputs, v)
		}
	}
	for at, s := range outline.Places(f) {
		if s.Do == api.Release && met[at] {
			hatches = append(hatches, s.N)
		}
	}
	slices.Sort(hatches)
	return inputs, slices.Compact(hatches), api.OK
}

// Reaches returns the outputs of f that depend, other than through releases, on what the observer of p may not see, and reports
// whether the running time does.
func Reaches(f api.Flat, p api.Policy) ([]int, bool, api.Code) {
	secrets, code := hidden(f, p)
	if code != api.OK {
		return nil, false, code
	}
	d, _ := withoutReleases(f)
	met, _ := Forth(d, secrets)
	var outputs []int
	for at, s := range outline.Places(f) {
		if s.Do == api.Output && met[at] {
			outputs = append(outputs, at)
		}
	}
	return outputs, met[timeOf(d)], api.OK
}

// hidden returns the nodes of the inputs and of the Releases that the observer of p may not see. ErrPolicy if a Release must not
// be there for any observer.
func hidden(f api.Flat, p api.Policy) ([]int, api.Code) {
	visible, code := policy.Visible(f, p)
	if code != api.OK {
		return nil, code
	}
	released, code := policy.Released(f, p)
	if code != api.OK {
		return nil, code
	}
	levels, _ := policy.Hatches(f, p)
	var nodes []int
	places := outline.Places(f)
	for at, s := range places {
		switch {
		case s.Do != api.Release:
		case levels[s.N] < 0:
			return nil, api.ErrPolicy
		case !released[s.N]:
			nodes = append(nodes, at)
		}
	}
	for v, variable := range f.Vars {
		if variable.Kind != api.Local && !visible[v] {
			nodes = append(nodes, len(places)+v)
		}
	}
	return nodes, api.OK
}

// withoutReleases returns the dependence graph of f without the dependences on what is released.
func withoutReleases(f api.Flat) (api.Pdg, api.Code) {
	d, code := Build(f)
	d.Deps = slices.DeleteFunc(d.Deps, func(dep api.Dep) bool { return dep.Kind == api.DepRelease })
	return d, code
}
