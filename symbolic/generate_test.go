package symbolic_test

import (
	"math/rand"
	"testing"

	"keyhole/api"
	"keyhole/flat"
	"keyhole/sample"
)

var (
	lit, ref, op      = sample.Lit, sample.Ref, sample.Op
	set, output, wait = sample.Set, sample.Output, sample.Wait
	test, loop        = sample.If, sample.Loop
	costly            = sample.Costly
)

// example1 and example2 are the programs of the chapter's examples.
func example1() api.Flat {
	return api.Flat{Vars: []api.Var{{Name: "x", Kind: api.Secret, High: 2}}, Body: []api.Step{costly(1, output(op(api.OpEq, ref(0), lit(1))))}}
}

func example2() api.Flat {
	return api.Flat{Vars: []api.Var{{Name: "a", Kind: api.Secret, High: 1}, {Name: "r", Kind: api.Random, High: 2}}, Body: []api.Step{output(op(api.OpAdd, ref(0), ref(1)))}}
}

// newSource returns a source of programs with many branches and outputs.
func newSource(r *rand.Rand) *sample.Source {
	g := sample.NewSource(r.Intn)
	g.Kinds = []api.Action{api.If, api.If, api.Loop, api.Loop, api.Assign, api.Assign, api.Assign, api.Assign, api.Output, api.Output, api.Wait, api.Release}
	g.Costs = []int{0, 0, 1, 3}
	inputs := sample.Inputs()
	g.Term = func() api.Term {
		if r.Intn(3) > 0 {
			return g.AnyTerm()
		}
		kinds := []api.Op{api.OpAdd, api.OpMul, api.OpLt, api.OpEq, api.OpMax}
		return op(kinds[r.Intn(len(kinds))], ref(inputs[r.Intn(4)]), ref(inputs[r.Intn(4)]))
	}
	return g
}

// shuffled returns variables in another order, with other bounds of the inputs, and the places of the old ones.
func shuffled(r *rand.Rand, vars []api.Var) ([]api.Var, []int) {
	places := r.Perm(len(vars))
	other := make([]api.Var, len(vars))
	for i, v := range vars {
		if v.Kind != api.Local {
			v.Low = r.Intn(7) - 3
			v.High = v.Low + r.Intn([]int{1, 2, 3, 5, 9}[r.Intn(5)])
		}
		other[places[i]] = v
	}
	return other, places
}

// moved returns a term whose variables have other places.
func moved(t api.Term, places []int) api.Term {
	if t.Op == api.OpRef {
		return ref(places[t.N])
	}
	var kids []api.Term
	for _, kid := range t.Kids {
		kids = append(kids, moved(kid, places))
	}
	t.Kids = kids
	return t
}

// movedSteps returns steps whose variables have other places.
func movedSteps(list []api.Step, places []int) []api.Step {
	var other []api.Step
	for _, s := range list {
		if s.Do == api.Assign || s.Do == api.Release {
			s.Var = places[s.Var]
		}
		s.Term, s.Then, s.Else = moved(s.Term, places), movedSteps(s.Then, places), movedSteps(s.Else, places)
		other = append(other, s)
	}
	return other
}

// program returns a random program, whose inputs stand anywhere and have any bounds.
func program(r *rand.Rand) api.Flat {
	for {
		f := newSource(r).Program()
		vars, places := shuffled(r, f.Vars)
		other := api.Flat{Vars: vars, Body: movedSteps(f.Body, places)}
		for _, h := range f.Hatches {
			h.Term = moved(h.Term, places)
			other.Hatches = append(other.Hatches, h)
		}
		if flat.Check(other) == api.OK && bitsOf(other) <= 8 {
			return other
		}
	}
}

// view returns a random view.
func view(r *rand.Rand, f api.Flat) api.View {
	v := api.View{Timed: r.Intn(3) > 0}
	for _, x := range f.Vars {
		if x.Kind == api.Public {
			v.Public = append(v.Public, x.Low+r.Intn(x.High-x.Low+1))
		}
	}
	return v
}

// each calls visit with a program for every body of at most 3 steps, and with random programs, each with a random view.
func each(t *testing.T, random int, visit func(f api.Flat, v api.View)) {
	t.Helper()
	k := sample.Kit{
		Single: []api.Step{set(0, op(api.OpAdd, ref(2), ref(1))), set(2, ref(5)), costly(2, output(op(api.OpAdd, ref(0), ref(6)))), output(op(api.OpMul, ref(1), ref(5))), sample.Release(2, 0), wait(1)},
		Loops:  []api.Step{costly(1, loop(2, ref(1))), loop(1, lit(1))},
		Ifs:    []api.Step{test(ref(2), nil, nil)},
	}
	r := rand.New(rand.NewSource(int64(random)))
	count := 0
	for size := range 4 {
		k.Bodies(size, func(list []api.Step) {
			f := api.Flat{Vars: sample.Vars(), Hatches: sample.Hatches(), Body: list}
			visit(f, view(r, f))
			count++
		})
	}
	if count < 1000 {
		t.Fatalf("%d programs", count)
	}
	for range random {
		f := program(r)
		visit(f, view(r, f))
	}
}
