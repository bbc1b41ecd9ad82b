package policy_test

import (
	"slices"
	"testing"

	"keyhole/api"
	"keyhole/flat"
	"keyhole/policy"
)

// model has what the chapter says of a program and a policy that are valid.
type model struct {
	inputs, hatches   []int
	visible, released []bool
	inputs0, hatches0 api.Code // the codes
}

func modelOf(f api.Flat, p api.Policy) model {
	var m model
	bottom := join(p)
	top := 0
	for i := range p.Levels {
		if !slices.ContainsFunc(indices(p.Levels), func(other int) bool { return !isBelow(p, other, i) }) {
			top = i
		}
	}
	for _, v := range f.Vars {
		level := bottom
		if v.Kind == api.Secret {
			level = top
		}
		// A later part of the name that ends before a dot is a longer one.
		for i := range len(v.Name) + 1 {
			for _, label := range p.Inputs {
				if (i == len(v.Name) || v.Name[i] == '.') && v.Name[:i] == label.Name && v.Kind != api.Local {
					level = label.Level
				}
			}
		}
		m.inputs = append(m.inputs, level)
		m.visible = append(m.visible, v.Kind != api.Local && isBelow(p, level, p.Observer))
	}
	for _, h := range f.Hatches {
		level := -1
		for _, label := range p.Hatches {
			if label.Name == h.Name {
				level = label.Level
			}
		}
		m.hatches = append(m.hatches, level)
		m.released = append(m.released, level >= 0 && isBelow(p, level, p.Observer))
	}
	if kept := fitting(f, p); len(kept.Inputs) < len(p.Inputs) {
		m.inputs, m.visible, m.inputs0 = nil, nil, api.ErrName
	}
	if kept := fitting(f, p); len(kept.Hatches) < len(p.Hatches) {
		m.hatches, m.released, m.hatches0 = nil, nil, api.ErrName
	}
	return m
}

func indices(list []string) []int {
	var result []int
	for i := range list {
		result = append(result, i)
	}
	return result
}

// expectLevels fails unless the four functions return what is wanted.
func expectLevels(t *testing.T, f api.Flat, p api.Policy, want model) {
	t.Helper()
	if got, code := policy.Inputs(f, p); !slices.Equal(got, want.inputs) || code != want.inputs0 {
		t.Fatalf("Inputs = %v, %d, want %v, %d: %+v, %+v", got, code, want.inputs, want.inputs0, f, p)
	}
	if got, code := policy.Visible(f, p); !slices.Equal(got, want.visible) || code != want.inputs0 {
		t.Fatalf("Visible = %v, %d, want %v, %d: %+v, %+v", got, code, want.visible, want.inputs0, f, p)
	}
	if got, code := policy.Hatches(f, p); !slices.Equal(got, want.hatches) || code != want.hatches0 {
		t.Fatalf("Hatches = %v, %d, want %v, %d: %+v, %+v", got, code, want.hatches, want.hatches0, f, p)
	}
	if got, code := policy.Released(f, p); !slices.Equal(got, want.released) || code != want.hatches0 {
		t.Fatalf("Released = %v, %d, want %v, %d: %+v, %+v", got, code, want.released, want.hatches0, f, p)
	}
}

func TestP19_4Examples(t *testing.T) {
	f := api.Flat{Vars: []api.Var{{Name: "pin.0", Kind: api.Secret}, {Name: "pins", Kind: api.Secret}, {Name: "guess", Kind: api.Public}}, Hatches: []api.Hatch{{Name: "last"}, {Name: "first"}}}
	p := example()
	expectLevels(t, f, p, model{inputs: []int{1, 1, 0}, visible: []bool{false, false, true}, hatches: []int{0, -1}, released: []bool{true, false}})
	p.Inputs = append(p.Inputs, api.Label{Name: "pin.0"}, api.Label{Name: "guess", Level: 1})
	p.Hatches = []api.Label{{Name: "first", Level: 1}}
	expectLevels(t, f, p, model{inputs: []int{0, 1, 1}, visible: []bool{true, false, false}, hatches: []int{-1, 1}, released: []bool{false, false}})
	p.Observer = 1
	expectLevels(t, f, p, model{inputs: []int{0, 1, 1}, visible: []bool{true, true, true}, hatches: []int{-1, 1}, released: []bool{false, true}})
	expectLevels(t, api.Flat{}, api.Policy{Levels: []string{"a"}}, model{})
	// A label for a local variable covers no input, and one for a hatch must name it.
	f.Vars[2].Kind = api.Local
	expectLevels(t, f, p, model{inputs0: api.ErrName, hatches: []int{-1, 1}, released: []bool{false, true}})
	p.Inputs, p.Hatches = p.Inputs[:2], []api.Label{{Name: "last.0"}}
	expectLevels(t, f, p, model{inputs: []int{0, 1, 0}, visible: []bool{true, true, false}, hatches0: api.ErrName})
}

func TestP19_4Random(t *testing.T) {
	g := newGenerator(194)
	wrong, fits := 0, 0
	for range 20000 {
		f, p := g.flat(), g.policy()
		if g.Intn(3) > 0 {
			p = fitting(f, p)
		}
		m := modelOf(f, p)
		expectLevels(t, f, p, m)
		if m.inputs0 != api.OK || m.hatches0 != api.OK {
			wrong++
		} else if len(p.Inputs) > 0 {
			fits++
		}
	}
	if wrong < 3000 || fits < 3000 {
		t.Errorf("only %d that do not fit, %d that do", wrong, fits)
	}
}

func TestP19_4Invalid(t *testing.T) {
	g := newGenerator(1942)
	policies, programs := 0, 0
	for range 10000 {
		f, p := g.flat(), g.disturbed()
		switch g.Intn(6) {
		case 0:
			f.Vars = append(f.Vars, api.Var{Name: "Q"})
		case 1:
			f.Body = []api.Step{{Do: api.Output, Term: api.Term{Op: api.OpRef, N: 99}}}
		case 2:
			f.Hatches = append(f.Hatches, api.Hatch{Name: "h", Low: 1})
		}
		if check(p) == api.OK && flat.Check(f) == api.OK {
			continue
		}
		if check(p) == api.OK {
			programs++
		} else {
			policies++
		}
		// Labels that do not fit come after it.
		expectLevels(t, f, p, model{inputs0: api.ErrArgument, hatches0: api.ErrArgument})
	}
	if policies < 3000 || programs < 2000 {
		t.Errorf("only %d policies, %d programs", policies, programs)
	}
}

func TestP19_5HigherObservers(t *testing.T) {
	g := newGenerator(195)
	more := 0
	for range 5000 {
		f, p := g.flat(), g.policy()
		p = fitting(f, p)
		low, _ := policy.Visible(f, p)
		lowReleased, _ := policy.Released(f, p)
		for observer := range p.Levels {
			q := clone(p)
			q.Observer = observer
			if above, _ := policy.Below(p, p.Observer, observer); !above {
				continue
			}
			high, _ := policy.Visible(f, q)
			highReleased, _ := policy.Released(f, q)
			for i := range low {
				if low[i] && !high[i] {
					t.Fatalf("%s is hidden from a higher observer: %+v, %+v", f.Vars[i].Name, f, p)
				}
			}
			for i := range lowReleased {
				if lowReleased[i] && !highReleased[i] {
					t.Fatalf("%s is not released to a higher observer: %+v, %+v", f.Hatches[i].Name, f, p)
				}
			}
			if !slices.Equal(low, high) || !slices.Equal(lowReleased, highReleased) {
				more++
			}
		}
	}
	if more < 1000 {
		t.Errorf("only %d observers see more", more)
	}
}

// A label is the same as one label for each input that it covers and that no longer name covers.
func TestP19_5Labels(t *testing.T) {
	g := newGenerator(1952)
	split := 0
	for range 10000 {
		f, p := g.flat(), g.policy()
		p = fitting(f, p)
		want, code := policy.Inputs(f, p)
		if code != api.OK {
			t.Fatalf("Inputs = %d: %+v, %+v", code, f, p)
		}
		q := clone(p)
		q.Inputs = nil
		for _, v := range f.Vars {
			best := api.Label{}
			for _, label := range p.Inputs {
				if isCovered(v.Name, label.Name) && len(label.Name) > len(best.Name) {
					best = label
				}
			}
			if v.Kind != api.Local && best.Name != "" {
				q.Inputs = append(q.Inputs, api.Label{Name: v.Name, Level: best.Level})
			}
		}
		// A label with the name of an input covers its components too, if there are any.
		slices.SortFunc(q.Inputs, func(a, b api.Label) int { return len(a.Name) - len(b.Name) })
		covered := func(v api.Var) bool {
			return v.Kind != api.Local && slices.ContainsFunc(p.Inputs, func(label api.Label) bool { return isCovered(v.Name, label.Name) })
		}
		isOther := func(v api.Var) bool {
			return v.Kind != api.Local && !covered(v) && slices.ContainsFunc(q.Inputs, func(label api.Label) bool { return isCovered(v.Name, label.Name) })
		}
		if slices.ContainsFunc(f.Vars, isOther) {
			continue
		}
		if got, code := policy.Inputs(f, q); !slices.Equal(got, want) || code != api.OK {
			t.Fatalf("Inputs = %v, %d, want %v: %+v, %+v", got, code, want, p, q)
		}
		if !slices.Equal(p.Inputs, q.Inputs) {
			split++
		}
	}
	if split < 1000 {
		t.Errorf("only %d policies with other labels", split)
	}
}

func TestFreshMemory(t *testing.T) {
	f := api.Flat{Vars: []api.Var{{Name: "pin", Kind: api.Secret}}, Hatches: []api.Hatch{{Name: "last"}}}
	p := example()
	inputs, _ := policy.Inputs(f, p)
	hatches, _ := policy.Hatches(f, p)
	visible, _ := policy.Visible(f, p)
	released, _ := policy.Released(f, p)
	inputs[0], hatches[0], visible[0], released[0] = 7, 7, true, false
	expectLevels(t, f, p, model{inputs: []int{1}, hatches: []int{0}, visible: []bool{false}, released: []bool{true}})
	if !equal(p, example()) {
		t.Errorf("the policy is changed: %+v", p)
	}
	text := printed(p)
	first, _, _ := policy.Parse(text)
	first.Levels[0], first.Order[0], first.Inputs[0].Level, first.Hatches[0].Name = "x", [2]int{}, 0, "y"
	if second, _, _ := policy.Parse(text); !equal(second, p) {
		t.Errorf("a later call returns %+v", second)
	}
}
