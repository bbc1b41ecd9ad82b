package flat_test

import (
	"reflect"
	"slices"
	"testing"

	"keyhole/api"
	"keyhole/flat"
)

// preorder returns the steps in preorder.
func preorder(list []api.Step) []api.Step {
	var all []api.Step
	for _, s := range list {
		all = append(all, s)
		all = append(all, preorder(s.Then)...)
		all = append(all, preorder(s.Else)...)
	}
	return all
}

// without returns the steps but for that with the index at in preorder, and how many steps there were.
func without(list []api.Step, at int) ([]api.Step, int) {
	var result []api.Step
	size := 0
	for _, s := range list {
		isIt := size == at
		size++
		var n int
		s.Then, n = without(s.Then, at-size)
		size += n
		s.Else, n = without(s.Else, at-size)
		size += n
		if !isIt {
			result = append(result, s)
		}
	}
	return result, size
}

// isSame reports whether two values are equal, where nil and empty lists are equal.
func isSame[T any](a, b T) bool {
	return reflect.DeepEqual(clone(a, true), clone(b, true))
}

// spoil changes all memory of a step.
func spoil(s api.Step) {
	for _, list := range [][]api.Step{s.Then, s.Else} {
		for i := range list {
			spoil(list[i])
			list[i] = api.Step{Do: 99}
		}
	}
	for i := range s.Bounds {
		s.Bounds[i] = 99
	}
	spoilTerm(s.Term)
}

func spoilTerm(t api.Term) {
	for i := range t.Kids {
		spoilTerm(t.Kids[i])
		t.Kids[i] = api.Term{Op: 99}
	}
}

func TestP17_6Examples(t *testing.T) {
	f := whole()
	if got := flat.Size(f); got != 8 {
		t.Errorf("Size = %d", got)
	}
	if got := flat.Size(api.Flat{}); got != 0 {
		t.Errorf("Size of nothing = %d", got)
	}
	if got := flat.Size(first()); got != 4 {
		t.Errorf("Size = %d", got)
	}
	for i, do := range []api.Action{api.Assign, api.If, api.Output, api.Wait, api.Release, api.Loop, api.Assign, api.Settle} {
		if s, code := flat.At(f, i); s.Do != do || code != api.OK {
			t.Errorf("At(%d) = %v, %d, want the action %d", i, s, code, do)
		}
	}
	for i, size := range []int{7, 4, 7, 7, 7, 6, 7, 7} {
		if removed, code := flat.Remove(f, i); flat.Size(removed) != size || code != api.OK {
			t.Errorf("Remove(%d) leaves %d steps, %d", i, flat.Size(removed), code)
		}
	}
	removed, _ := flat.Remove(f, 3)
	f.Body[1].Else = f.Body[1].Else[1:]
	if !isSame(removed, f) {
		t.Errorf("Remove = %+v", removed)
	}
}

func TestP17_6Ranges(t *testing.T) {
	for _, f := range []api.Flat{{}, first(), whole(), {Vars: []api.Var{{Name: "X"}}, Body: []api.Step{{Do: 77, Else: []api.Step{{Do: -5}}}}}} {
		for _, i := range []int{-1, -1 << 63, flat.Size(f), flat.Size(f) + 1, 1<<63 - 1} {
			if s, code := flat.At(f, i); !isSame(s, api.Step{}) || code != api.ErrRange {
				t.Errorf("At(%d) = %v, %d", i, s, code)
			}
			if g, code := flat.Remove(f, i); !isSame(g, api.Flat{}) || code != api.ErrRange {
				t.Errorf("Remove(%d) = %v, %d", i, g, code)
			}
		}
	}
}

func TestP17_6Model(t *testing.T) {
	g := newGenerator(176)
	visited := 0
	for i := range 4000 {
		f := clone(g.program(), i%2 == 0)
		for range g.Intn(4) {
			g.disturb(&f)
		}
		before := clone(f, true)
		all := preorder(f.Body)
		if got := flat.Size(f); got != len(all) {
			t.Fatalf("Size = %d, want %d: %+v", got, len(all), f)
		}
		for i, want := range all {
			s, code := flat.At(f, i)
			if !isSame(s, want) || code != api.OK {
				t.Fatalf("At(%d) = %+v, %d, want %+v", i, s, code, want)
			}
			spoil(s)
			removed, code := flat.Remove(f, i)
			rest := f
			rest.Body, _ = without(f.Body, i)
			if !isSame(removed, rest) || code != api.OK {
				t.Fatalf("Remove(%d) = %+v, %d, want %+v", i, removed, code, rest)
			}
			for _, s := range removed.Body {
				spoil(s)
			}
			for k := range removed.Hatches {
				spoilTerm(removed.Hatches[k].Term)
				removed.Hatches[k].Name = "spoilt"
			}
			for k := range removed.Vars {
				removed.Vars[k].Name = "spoilt"
			}
			visited++
		}
		if !reflect.DeepEqual(before, clone(f, true)) {
			t.Fatalf("the argument is changed: %+v", f)
		}
	}
	if visited < 15000 {
		t.Errorf("only %d steps", visited)
	}
}

// TestP17_6Again removes all steps one after the other.
func TestP17_6Again(t *testing.T) {
	f := whole()
	for left := 8; left > 0; left-- {
		if got := flat.Size(f); got != left {
			t.Fatalf("Size = %d, want %d", got, left)
		}
		i := slices.IndexFunc(preorder(f.Body), func(s api.Step) bool { return len(s.Then) == 0 && len(s.Else) == 0 })
		f, _ = flat.Remove(f, i)
	}
	if !isSame(f, api.Flat{Vars: whole().Vars, Hatches: whole().Hatches}) {
		t.Errorf("%+v is left", f)
	}
}

func TestEqual(t *testing.T) {
	g := newGenerator(1761)
	equal, different := 0, 0
	for i := range 20000 {
		f := clone(g.program(), false)
		other := clone(f, i%2 == 0)
		if g.Intn(3) > 0 {
			g.disturb(&other)
		}
		want := isSame(f, other)
		if got := flat.Equal(f, other); got != want {
			t.Fatalf("Equal = %v, want %v: %+v, %+v", got, want, f, other)
		}
		if got := flat.Equal(other, f); got != want {
			t.Fatalf("Equal the other way round = %v, want %v: %+v, %+v", got, want, f, other)
		}
		equal += truthOf(want)
		different += truthOf(!want)
	}
	if equal < 5000 || different < 5000 {
		t.Errorf("%d equal pairs, %d different ones", equal, different)
	}
}

// TestEqualFields changes each field of each part of a program alone.
func TestEqualFields(t *testing.T) {
	for i, change := range []func(f *api.Flat){
		func(f *api.Flat) { f.Vars[1].Name = "q" }, func(f *api.Flat) { f.Vars[1].Kind = 2 }, func(f *api.Flat) { f.Vars[1].Low-- }, func(f *api.Flat) { f.Vars[1].High++ }, func(f *api.Flat) { f.Vars[1].Init++ }, func(f *api.Flat) { f.Vars = f.Vars[:3] }, func(f *api.Flat) { f.Vars = append(f.Vars, api.Var{}) },
		func(f *api.Flat) { f.Hatches[1].Name = "q" }, func(f *api.Flat) { f.Hatches[1].Low-- }, func(f *api.Flat) { f.Hatches[1].High++ }, func(f *api.Flat) { f.Hatches[0].Term.Kids[1].N++ }, func(f *api.Flat) { f.Hatches = f.Hatches[:1] }, func(f *api.Flat) { f.Hatches[0].Term.Kids = f.Hatches[0].Term.Kids[:1] },
		func(f *api.Flat) { f.Body[1].Do++ }, func(f *api.Flat) { f.Body[1].Cost++ }, func(f *api.Flat) { f.Body[1].Var++ }, func(f *api.Flat) { f.Body[1].N++ }, func(f *api.Flat) { f.Body[1].Term.Op++ }, func(f *api.Flat) { f.Body[1].Term.N++ }, func(f *api.Flat) { f.Body[1].Then[0].Cost++ },
		func(f *api.Flat) { f.Body[1].Else[1].Cost++ }, func(f *api.Flat) { f.Body[1].Then = nil }, func(f *api.Flat) { f.Body[1].Else = f.Body[1].Else[:1] }, func(f *api.Flat) { f.Body[1].Then, f.Body[1].Else = f.Body[1].Else, f.Body[1].Then }, func(f *api.Flat) { f.Body[3].Bounds[1]++ }, func(f *api.Flat) { f.Body[3].Bounds = f.Body[3].Bounds[:1] }, func(f *api.Flat) { f.Body = f.Body[:3] },
	} {
		f := whole()
		change(&f)
		if flat.Equal(f, whole()) || flat.Equal(whole(), f) || !flat.Equal(f, f) {
			t.Errorf("%d: Equal is wrong", i)
		}
	}
	if !flat.Equal(whole(), whole()) || !flat.Equal(api.Flat{}, clone(api.Flat{}, true)) {
		t.Errorf("Equal is false")
	}
}
