package ssa_test

import (
	"reflect"
	"slices"
	"testing"

	"keyhole/api"
	"keyhole/flat"
	"keyhole/ssa"
)

// example is the program of the chapter's first example, and the form that stands there.
func example() (api.Flat, api.Ssa) {
	f := api.Flat{
		Vars: []api.Var{{Name: "x", Kind: api.Secret, High: 1}, {Name: "y", High: 1}},
		Body: []api.Step{test(ref(0), []api.Step{set(1, lit(1))}, nil), output(ref(1))},
	}
	return f, api.Ssa{Of: []int{0, 1, 1, 1}, Nodes: []api.SsaNode{
		{Def: -1}, {Def: -1, Uses: []api.Use{{Var: 0, Version: 0}}}, {Def: 2},
		{Def: -1, Phis: []api.Phi{{Var: 1, Version: 3, From: []int{1, 2}, Args: []int{1, 2}}}, Uses: []api.Use{{Var: 1, Version: 3}}}, {Def: -1},
	}}
}

// build returns the form that Build returns.
func build(t *testing.T, f api.Flat, g api.Cfg) api.Ssa {
	t.Helper()
	s, code := ssa.Build(f, g)
	if code != api.OK {
		t.Fatalf("Build = %d: %+v", code, f)
	}
	return s
}

func TestP22_1Build(t *testing.T) {
	phis := 0
	each(t, 1500, func(f api.Flat, g api.Cfg) {
		s := build(t, f, g)
		if !(model{f, g, s}).isRight() {
			t.Fatalf("Build = %+v: %+v", s, f)
		}
		for _, n := range s.Nodes {
			phis += len(n.Phis)
		}
	})
	if phis < 2000 {
		t.Errorf("%d phis", phis)
	}
}

// atLimits returns programs with as many steps, variables and steps around steps as there may be.
func atLimits() map[string]api.Flat {
	var all []api.Var
	for i := range api.MaxVars {
		all = append(all, api.Var{Name: "v" + string(rune('a'+i/26)) + string(rune('a'+i%26)), High: 9, Init: i % 10})
	}
	var line, fork []api.Step
	for i := range api.MaxNodes / 2 {
		line = append(line, set(i*7%api.MaxVars, lit(i%10)))
	}
	for i := range api.MaxNodes / 4 {
		fork = append(fork, test(lit(i%2), []api.Step{set(i*7%api.MaxVars, lit(i%10))}, nil))
	}
	loops := func(list []api.Step, rounds int) []api.Step {
		for range api.MaxDepth - 1 {
			list = append([]api.Step{loop(rounds, lit(1), list)}, set(7, lit(3)))
		}
		return list
	}
	inside := func() (list []api.Step) {
		for i := range 200 {
			list = append(list, set(i%api.MaxVars, op(api.OpAdd, ref((i+1)%api.MaxVars), ref(i*5%api.MaxVars))))
		}
		return list
	}
	return map[string]api.Flat{
		"a line": {Vars: all, Body: line}, "forks": {Vars: all, Body: fork}, "nothing": {}, "variables": {Vars: all}, "loops": {Vars: all, Body: loops(nil, 1)},
		"full loops": {Vars: all, Body: append(loops(inside(), 1), output(ref(63)))}, "loops without rounds": {Vars: all, Body: append(loops(inside(), 0), output(ref(0)))},
	}
}

func TestP22_1Limits(t *testing.T) {
	for name, f := range atLimits() {
		g := graph(t, f)
		s := build(t, f, g)
		if code := ssa.Check(f, g, s); code != api.OK {
			t.Errorf("%s: Check = %d", name, code)
		}
		want, wantCode := flat.Run(f, api.Inputs{})
		got, code := ssa.Run(f, g, s, api.Inputs{})
		if !reflect.DeepEqual(got, want) || code != wantCode || code != api.OK {
			t.Errorf("%s: Run = %v, %d, want %v, %d", name, got, code, want, wantCode)
		}
	}
}

func TestP22_2Examples(t *testing.T) {
	f, s := example()
	g := graph(t, f)
	if code := ssa.Check(f, g, s); code != api.OK {
		t.Errorf("Check = %d", code)
	}
	if needed, code := ssa.Needed(f, g, s); !slices.Equal(needed, []bool{true, true, true, true}) || code != api.OK {
		t.Errorf("Needed = %v, %d", needed, code)
	}
	s.Of, s.Nodes[3].Phis = s.Of[:3], nil
	for version := -4; version < 5; version++ {
		s.Nodes[3].Uses[0].Version = version
		if code := ssa.Check(f, g, s); code != api.ErrProof {
			t.Errorf("Check = %d with the version %d", code, version)
		}
	}
}

// TestP22_2Right has right forms with other phis and numbers than those of Build.
func TestP22_2Right(t *testing.T) {
	source := newGenerator(222)
	more, fewer := 0, 0
	each(t, 400, func(f api.Flat, g api.Cfg) {
		for range 2 {
			s := source.form(f, g)
			if code := ssa.Check(f, g, s); code != api.OK {
				t.Fatalf("Check(%+v, %+v) = %d", f, s, code)
			}
			if own := build(t, f, g); len(own.Of) < len(s.Of) {
				more++
			} else if len(own.Of) > len(s.Of) {
				fewer++
			}
		}
	})
	if more < 500 {
		t.Errorf("%d forms with more phis, %d with fewer", more, fewer)
	}
}

// numbers calls visit with all numbers in a value.
func numbers(v reflect.Value, visit func(number reflect.Value)) {
	switch v.Kind() {
	case reflect.Struct:
		for i := range v.NumField() {
			numbers(v.Field(i), visit)
		}
	case reflect.Slice:
		for i := range v.Len() {
			numbers(v.Index(i), visit)
		}
	case reflect.Int:
		visit(v)
	}
}

// TestP22_2Numbers changes each number of right forms to all others that are near.
func TestP22_2Numbers(t *testing.T) {
	source := newGenerator(2221)
	right, wrong := 0, 0
	for range 60 {
		f := source.program()
		g := graph(t, f)
		if len(g.Nodes) > 20 {
			continue
		}
		for _, s := range []api.Ssa{build(t, f, g), source.form(f, g)} {
			most := int64(max(len(s.Of), len(s.Nodes)) + 1)
			numbers(reflect.ValueOf(&s).Elem(), func(number reflect.Value) {
				old := number.Int()
				for n := int64(-3); n <= most; n++ {
					number.SetInt(n)
					want := api.ErrProof
					if (model{f, g, s}).isRight() {
						want = api.OK
						right++
					} else {
						wrong++
					}
					if code := ssa.Check(f, g, s); code != want {
						t.Fatalf("Check(%+v, %+v) = %d, want %d", f, s, code, want)
					}
				}
				number.SetInt(old)
			})
		}
	}
	if right < 1000 || wrong < 20000 {
		t.Errorf("%d right forms, %d others", right, wrong)
	}
}

// changed returns a copy of the form in which lists have been cut, extended or put into another order.
func (g generator) changed(s api.Ssa) api.Ssa {
	s = renumbered(s, len(s.Of), nil)
	for range 1 + g.Intn(2) {
		n := &s.Nodes[g.Intn(len(s.Nodes))]
		switch g.Intn(7) {
		case 0:
			s.Of = list(g, s.Of)
		case 1:
			s.Nodes = list(g, s.Nodes)
		case 2:
			n.Phis = list(g, n.Phis)
		case 3:
			n.Uses = list(g, n.Uses)
		case 4:
			if len(n.Phis) > 0 {
				n.Phis[0].From = list(g, n.Phis[0].From)
			}
		case 5:
			if len(n.Phis) > 0 {
				n.Phis[0].Args = list(g, n.Phis[0].Args)
			}
		case 6: // a version that nothing reads need not be there
			if last := len(s.Of) - 1; g.Intn(2) == 0 {
				for i := range s.Nodes {
					s.Nodes[i].Phis = slices.DeleteFunc(s.Nodes[i].Phis, func(phi api.Phi) bool { return phi.Version == last })
				}
				s.Of = s.Of[:last]
			}
		}
	}
	return s
}

// list returns the list with a change.
func list[T any](g generator, old []T) []T {
	if len(old) == 0 {
		return append(old, *new(T))
	}
	i, k := g.Intn(len(old)), g.Intn(len(old))
	switch g.Intn(4) {
	case 0:
		return slices.Delete(slices.Clone(old), i, i+1)
	case 1:
		return slices.Insert(slices.Clone(old), i, old[k])
	case 2:
		return append(slices.Clone(old), *new(T))
	}
	result := slices.Clone(old)
	result[i], result[k] = old[k], old[i]
	return result
}

func TestP22_2Lists(t *testing.T) {
	source := newGenerator(2222)
	right, wrong := 0, 0
	each(t, 500, func(f api.Flat, g api.Cfg) {
		form := source.form(f, g)
		for range 10 {
			s := source.changed(form)
			want := api.ErrProof
			if (model{f, g, s}).isRight() {
				want = api.OK
				right++
			} else {
				wrong++
			}
			if code := ssa.Check(f, g, s); code != want {
				t.Fatalf("Check(%+v, %+v) = %d, want %d", f, s, code, want)
			}
		}
	})
	if right < 500 || wrong < 5000 {
		t.Errorf("%d right forms, %d others", right, wrong)
	}
}

// TestP22_2Conditions breaks each condition of a right form alone.
func TestP22_2Conditions(t *testing.T) {
	for name, by := range map[string]func(s *api.Ssa){
		"1: an input": func(s *api.Ssa) {
			s.Of, s.Nodes[4].Phis = append(s.Of, 0), []api.Phi{{Var: 0, Version: 4, From: []int{3}, Args: []int{0}}}
		},
		"1: no variable":    func(s *api.Ssa) { s.Of[2] = 2 },
		"1: below":          func(s *api.Ssa) { s.Of[3] = -1 },
		"1: initial":        func(s *api.Ssa) { s.Of[0], s.Of[1] = 1, 0 },
		"1: few":            func(s *api.Ssa) { s.Of = s.Of[:1] },
		"2: few":            func(s *api.Ssa) { s.Nodes = s.Nodes[:4] },
		"2: many":           func(s *api.Ssa) { s.Nodes = append(s.Nodes, api.SsaNode{Def: -1}) },
		"2: none":           func(s *api.Ssa) { s.Nodes = nil },
		"3: from":           func(s *api.Ssa) { s.Nodes[3].Phis[0].From = []int{2, 1} },
		"3: from twice":     func(s *api.Ssa) { s.Nodes[3].Phis[0].From, s.Nodes[3].Phis[0].Args = []int{1, 2, 2}, []int{1, 2, 2} },
		"3: from elsewhere": func(s *api.Ssa) { s.Nodes[3].Phis[0].From = []int{0, 2} },
		"3: few arguments":  func(s *api.Ssa) { s.Nodes[3].Phis[0].Args = []int{1} },
		"3: many arguments": func(s *api.Ssa) { s.Nodes[3].Phis[0].Args = []int{1, 2, 2} },
		"3: of an input":    func(s *api.Ssa) { s.Nodes[3].Phis[0].Var = 0 },
		"3: an initial value": func(s *api.Ssa) {
			s.Of, s.Nodes[3].Phis[0].Version, s.Nodes[3].Uses[0].Version = s.Of[:3], 1, 1
		},
		"3: twice": func(s *api.Ssa) {
			s.Of, s.Nodes[3].Uses[0].Version = append(s.Of, 1), 4
			s.Nodes[3].Phis = append(s.Nodes[3].Phis, api.Phi{Var: 1, Version: 4, From: []int{1, 2}, Args: []int{1, 2}})
		},
		"3: at the entry": func(s *api.Ssa) { s.Of, s.Nodes[0].Phis = append(s.Of, 1), []api.Phi{{Var: 1, Version: 4}} },
		"4: none":         func(s *api.Ssa) { s.Nodes[2].Def = -1 },
		"4: some":         func(s *api.Ssa) { s.Of, s.Nodes[4].Def = append(s.Of, 1), 4 },
		"4: an initial value": func(s *api.Ssa) {
			s.Of, s.Nodes[2].Def, s.Nodes[3].Uses[0].Version = s.Of[:3], 1, 2
			s.Nodes[3].Phis[0].Version, s.Nodes[3].Phis[0].Args = 2, []int{1, 1}
		},
		"5: none":                  func(s *api.Ssa) { s.Nodes[3].Uses = nil },
		"5: twice":                 func(s *api.Ssa) { s.Nodes[3].Uses = append(s.Nodes[3].Uses, s.Nodes[3].Uses[0]) },
		"5: of what is not read":   func(s *api.Ssa) { s.Nodes[4].Uses = []api.Use{{Var: 1, Version: 3}} },
		"6: no definition":         func(s *api.Ssa) { s.Of = append(s.Of, 1) },
		"6: two definitions":       func(s *api.Ssa) { s.Of, s.Nodes[3].Phis[0].Version, s.Nodes[3].Uses[0].Version = s.Of[:3], 2, 2 },
		"7: an earlier version":    func(s *api.Ssa) { s.Nodes[3].Uses[0].Version = 2 },
		"7: the initial value":     func(s *api.Ssa) { s.Nodes[3].Uses[0].Version = 1 },
		"7: arguments exchanged":   func(s *api.Ssa) { s.Nodes[3].Phis[0].Args = []int{2, 1} },
		"7: an argument by itself": func(s *api.Ssa) { s.Nodes[3].Phis[0].Args = []int{1, 3} },
	} {
		f, s := example()
		by(&s)
		if code := ssa.Check(f, graph(t, f), s); code != api.ErrProof {
			t.Errorf("%s: Check = %d", name, code)
		}
	}
	// A phi where nothing meets, and one that nothing reads, do no harm.
	f, s := example()
	s.Of = append(s.Of, 1, 1)
	s.Nodes[2].Phis = []api.Phi{{Var: 1, Version: 5, From: []int{1}, Args: []int{1}}}
	s.Nodes[4].Phis = []api.Phi{{Var: 1, Version: 4, From: []int{3}, Args: []int{3}}}
	if code := ssa.Check(f, graph(t, f), s); code != api.OK {
		t.Errorf("Check = %d", code)
	}
}

// TestP22_2Mixed has arguments of a phi for which different versions meet further up.
func TestP22_2Mixed(t *testing.T) {
	f := api.Flat{Vars: []api.Var{{Name: "y", High: 1}}, Body: []api.Step{test(ref(0), []api.Step{test(lit(1), []api.Step{set(0, lit(1))}, nil), {Do: api.Wait}}, nil)}}
	g := graph(t, f) // 0 entry, 1 test, 2 test, 3 step, 4 wait, 5 exit
	s := api.Ssa{Of: []int{0, 0, 0}, Nodes: []api.SsaNode{{Def: -1}, {Def: -1, Uses: []api.Use{{}}}, {Def: -1}, {Def: 1}, {Def: -1}, {Def: -1, Phis: []api.Phi{{Var: 0, Version: 2, From: []int{1, 4}, Args: []int{0, 1}}}}}}
	for arg := -3; arg < 4; arg++ {
		s.Nodes[5].Phis[0].Args[1] = arg
		if code := ssa.Check(f, g, s); code != api.ErrProof {
			t.Errorf("Check = %d with %d", code, arg)
		}
	}
	s.Of, s.Nodes[5].Phis = s.Of[:2], nil // nothing reads what is mixed
	if code := ssa.Check(f, g, s); code != api.OK {
		t.Errorf("Check = %d", code)
	}
}

// results returns the results of all functions and their codes.
func results(f api.Flat, g api.Cfg, s api.Ssa, in api.Inputs) ([]any, []api.Code) {
	codes := make([]api.Code, 4)
	var built api.Ssa
	var seen api.Observation
	var needed []bool
	built, codes[0] = ssa.Build(f, g)
	codes[1] = ssa.Check(f, g, s)
	seen, codes[2] = ssa.Run(f, g, s, in)
	needed, codes[3] = ssa.Needed(f, g, s)
	return []any{built, seen, needed}, codes
}

func TestP22_2Errors(t *testing.T) {
	f, s := example()
	g, in := graph(t, f), api.Inputs{Secret: []int{1}}
	invalid, named := f, f
	invalid.Body = []api.Step{set(0, lit(1))}
	named.Vars = []api.Var{{Name: "X"}}
	wrong, other := s, g
	wrong.Of = []int{0}
	other.Nodes = slices.Clone(g.Nodes)
	other.Nodes[1].Other = 2
	ok := api.OK
	for i, c := range []struct {
		f     api.Flat
		g     api.Cfg
		s     api.Ssa
		in    api.Inputs
		codes []api.Code // of Build, Check, Run and Needed
	}{
		{f, g, s, in, []api.Code{ok, ok, ok, ok}},
		{invalid, g, s, in, slices.Repeat([]api.Code{api.ErrArgument}, 4)}, {named, other, wrong, in, slices.Repeat([]api.Code{api.ErrName}, 4)}, {api.Flat{Vars: make([]api.Var, 65)}, g, s, in, slices.Repeat([]api.Code{api.ErrLimit}, 4)},
		{f, other, s, in, slices.Repeat([]api.Code{api.ErrMismatch}, 4)}, {f, api.Cfg{}, wrong, api.Inputs{}, slices.Repeat([]api.Code{api.ErrMismatch}, 4)}, {api.Flat{}, g, s, in, slices.Repeat([]api.Code{api.ErrMismatch}, 4)},
		{f, g, wrong, in, []api.Code{ok, api.ErrProof, api.ErrProof, api.ErrProof}}, {f, g, api.Ssa{}, api.Inputs{}, []api.Code{ok, api.ErrProof, api.ErrProof, api.ErrProof}},
		{f, g, s, api.Inputs{}, []api.Code{ok, ok, api.ErrArgument, ok}}, {f, g, s, api.Inputs{Secret: []int{1}, Random: []int{1}}, []api.Code{ok, ok, api.ErrArgument, ok}}, {f, g, s, api.Inputs{Secret: []int{7}, Public: []int{7}}, []api.Code{ok, ok, api.ErrArgument, ok}},
		{f, g, s, api.Inputs{Secret: []int{2}}, []api.Code{ok, ok, api.ErrRange, ok}}, {f, g, s, api.Inputs{Secret: []int{-1}}, []api.Code{ok, ok, api.ErrRange, ok}},
	} {
		list, codes := results(c.f, c.g, c.s, c.in)
		if !slices.Equal(codes, c.codes) {
			t.Errorf("%d: codes %v, want %v", i, codes, c.codes)
		}
		for k, code := range []api.Code{codes[0], codes[2], codes[3]} {
			if code != api.OK && !reflect.ValueOf(list[k]).IsZero() {
				t.Errorf("%d: %v with the code %d", i, list[k], code)
			}
		}
	}
}
