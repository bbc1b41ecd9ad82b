package ssa_test

import (
	"reflect"
	"slices"
	"testing"

	"keyhole/api"
	"keyhole/flat"
	"keyhole/ssa"
)

func TestP22_3Run(t *testing.T) {
	source := newGenerator(223)
	outputs, times := 0, map[int]bool{}
	each(t, 3000, func(f api.Flat, g api.Cfg) {
		in := source.inputs()
		want, code := flat.Run(f, in)
		if code != api.OK {
			t.Fatalf("flat.Run = %d", code)
		}
		for _, s := range []api.Ssa{build(t, f, g), source.form(f, g)} {
			got, code := ssa.Run(f, g, s, in)
			if !slices.Equal(got.Outputs, want.Outputs) || got.Time != want.Time || code != api.OK {
				t.Fatalf("Run = %v, %d, want %v: %v, %+v, %+v", got, code, want, in, f, s)
			}
		}
		outputs += len(want.Outputs)
		times[want.Time] = true
	})
	if outputs < 2000 || len(times) < 200 {
		t.Errorf("%d outputs, %d times", outputs, len(times))
	}
}

// TestP22_3All runs programs with all inputs.
func TestP22_3All(t *testing.T) {
	source := newGenerator(2231)
	for range 100 {
		f := source.program()
		g := graph(t, f)
		s := source.form(f, g)
		for _, in := range allInputs() {
			want, _ := flat.Run(f, in)
			if got, code := ssa.Run(f, g, s, in); flat.Compare(got, want) != 0 || code != api.OK {
				t.Fatalf("Run = %v, %d, want %v: %v, %+v", got, code, want, in, f)
			}
		}
	}
}

// TestP22_3Steps has values that are clamped, hatches of inputs at the start, values that change places in a loop, and a time that settles.
func TestP22_3Steps(t *testing.T) {
	f := api.Flat{
		Vars:    []api.Var{{Name: "x", High: 5}, {Name: "y", High: 9, Init: 1}, {Name: "z", Low: -1, High: 1}, {Name: "s", Kind: api.Secret, Low: -9, High: 9}},
		Hatches: []api.Hatch{{Name: "h", Low: -5, High: 8, Term: op(api.OpMul, ref(3), lit(2))}},
		Body: []api.Step{
			{Do: api.Release, Cost: 2, Var: 1}, output(ref(1)), {Do: api.Release, Cost: 2, Var: 0}, output(ref(0)),
			loop(3, op(api.OpNe, ref(1), lit(7)), []api.Step{set(2, ref(0)), set(0, ref(1)), set(1, op(api.OpAdd, ref(2), lit(3)))}),
			output(op(api.OpAdd, op(api.OpMul, ref(0), lit(100)), ref(1))), output(ref(2)), {Do: api.Settle, Cost: 1, Bounds: []int{50, 333, 400}},
		},
	}
	g := graph(t, f)
	for secret, want := range map[int]api.Observation{
		// After the rounds x, y, z are, with s = 9: 5, 4, 1; then 4, 4, 1; then 4, 4, 1.
		9: {Outputs: []int{8, 5, 404, 1}, Time: 400}, 2: {Outputs: []int{4, 4, 404, 1}, Time: 400}, -9: {Outputs: []int{0, 0, 304, 1}, Time: 400},
	} {
		in := api.Inputs{Secret: []int{secret}}
		got, code := ssa.Run(f, g, build(t, f, g), in)
		if !reflect.DeepEqual(got, want) || code != api.OK {
			t.Errorf("Run with %d = %v, %d, want %v", secret, got, code, want)
		}
		if seen, _ := flat.Run(f, in); !reflect.DeepEqual(seen, want) {
			t.Errorf("flat.Run with %d = %v, want %v", secret, seen, want)
		}
	}
}

func TestP22_4Needed(t *testing.T) {
	source := newGenerator(224)
	yes, no := 0, 0
	each(t, 1000, func(f api.Flat, g api.Cfg) {
		for _, s := range []api.Ssa{build(t, f, g), source.form(f, g)} {
			want := model{f, g, s}.needed()
			got, code := ssa.Needed(f, g, s)
			if !slices.Equal(got, want) || code != api.OK {
				t.Fatalf("Needed = %v, %d, want %v: %+v, %+v", got, code, want, f, s)
			}
			for _, isNeeded := range got[len(f.Vars):] {
				if isNeeded {
					yes++
				} else {
					no++
				}
			}
		}
	})
	if yes < 1000 || no < 1000 {
		t.Errorf("%d versions are needed, %d are not", yes, no)
	}
}

// TestP22_4Release expects that a released value may be needed, but needs nothing, and that what only assigns to itself is not needed.
func TestP22_4Release(t *testing.T) {
	f := api.Flat{
		Vars:    []api.Var{{Name: "s", Kind: api.Secret, High: 1}, {Name: "x", High: 1}, {Name: "y", High: 1}, {Name: "z", High: 1}},
		Hatches: []api.Hatch{{Name: "h", High: 1, Term: ref(0)}},
		Body:    []api.Step{{Do: api.Release, Var: 1}, set(2, ref(1)), output(ref(2)), loop(2, lit(1), []api.Step{set(3, ref(3))}), {Do: api.Release, Var: 1}},
	}
	g := graph(t, f)
	s := build(t, f, g)
	needed, code := ssa.Needed(f, g, s)
	if code != api.OK {
		t.Fatalf("Needed = %d", code)
	}
	for node, want := range map[int]bool{1: true, 2: true, 6: false, 7: false} {
		if def := s.Nodes[node].Def; def < 0 || needed[def] != want {
			t.Errorf("the definition %d at %d is needed: %v", def, node, !want)
		}
	}
	if slices.Contains(needed[:4], true) {
		t.Errorf("initial values are needed: %v", needed)
	}
}

// TestP22_5Unneeded removes assignments that are not needed.
func TestP22_5Unneeded(t *testing.T) {
	source := newGenerator(225)
	removed, outputs := 0, 0
	each(t, 800, func(f api.Flat, g api.Cfg) {
		s := source.form(f, g)
		needed, code := ssa.Needed(f, g, s)
		if code != api.OK {
			t.Fatalf("Needed = %d", code)
		}
		for node, n := range g.Nodes {
			step, code := flat.At(f, n.At)
			if code != api.OK || n.Kind != api.NodeStep || step.Do != api.Assign || needed[s.Nodes[node].Def] {
				continue
			}
			less, code := flat.Remove(f, n.At)
			if code != api.OK {
				t.Fatalf("Remove = %d", code)
			}
			for _, in := range allInputs() {
				want, _ := flat.Run(f, in)
				if got, code := flat.Run(less, in); !slices.Equal(got.Outputs, want.Outputs) || code != api.OK {
					t.Fatalf("Run without the step %d = %v, %d, want %v: %v, %+v", n.At, got, code, want, in, f)
				}
				outputs += len(want.Outputs)
			}
			removed++
		}
	})
	if removed < 800 || outputs < 10000 {
		t.Errorf("%d assignments, %d outputs", removed, outputs)
	}
}

func TestP22_6Versions(t *testing.T) {
	each(t, 1000, func(f api.Flat, g api.Cfg) {
		s := build(t, f, g)
		defined := slices.Repeat([]int{0}, len(s.Of))
		count := len(f.Vars)
		for node, n := range s.Nodes {
			for _, phi := range n.Phis {
				defined[phi.Version]++
				count++
			}
			if v := (model{f: f, g: g}).defines(node); v >= 0 {
				defined[n.Def]++
				count++
			}
		}
		for version, n := range defined {
			if version < len(f.Vars) && n != 0 || version >= len(f.Vars) && n != 1 {
				t.Fatalf("the version %d has %d definitions: %+v, %+v", version, n, f, s)
			}
		}
		if len(s.Of) != count {
			t.Fatalf("%d versions, want %d: %+v, %+v", len(s.Of), count, f, s)
		}
	})
}

// TestMemory expects that arguments stay as they are, and that results share no memory with them or with each other.
func TestMemory(t *testing.T) {
	source := newGenerator(22)
	for range 200 {
		f, in := source.program(), source.inputs()
		g := graph(t, f)
		s := source.form(f, g)
		text, nodes, copied := flat.Text(f), slices.Clone(g.Nodes), renumbered(s, len(s.Of), nil)
		first, _ := results(f, g, s, in)
		second, _ := results(f, g, s, in)
		if !reflect.DeepEqual(first, second) {
			t.Fatalf("the results differ: %v, %v", first, second)
		}
		for _, result := range first {
			spoil(reflect.ValueOf(result))
		}
		if third, _ := results(f, g, s, in); flat.Text(f) != text || !slices.Equal(g.Nodes, nodes) || !reflect.DeepEqual(s, copied) || !reflect.DeepEqual(third, second) {
			t.Fatalf("something is shared: %+v", f)
		}
	}
	f := api.Flat{Vars: vars(), Body: []api.Step{test(ref(1), []api.Step{set(0, lit(1)), set(2, lit(1)), set(4, lit(1))}, nil)}}
	s := build(t, f, graph(t, f))
	met := map[*int]bool{}
	for _, phi := range s.Nodes[5].Phis {
		met[&phi.From[0]], met[&phi.Args[0]] = true, true
	}
	if len(met) != 2*len(locals) {
		t.Errorf("lists share memory: %+v", s)
	}
}

// spoil changes all numbers in a value.
func spoil(v reflect.Value) {
	numbers(v, func(number reflect.Value) {
		if number.CanSet() {
			number.SetInt(-77)
		}
	})
}
