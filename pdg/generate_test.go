package pdg_test

import (
	"math/rand"
	"slices"
	"testing"

	"keyhole/api"
	"keyhole/flat"
)

// lit, ref and op make terms.
func lit(n int) api.Term { return api.Term{N: n} }
func ref(i int) api.Term { return api.Term{Op: api.OpRef, N: i} }
func op(o api.Op, kids ...api.Term) api.Term {
	return api.Term{Op: o, Kids: kids}
}

// set, output, release, test and loop make steps.
func set(v int, t api.Term) api.Step { return api.Step{Do: api.Assign, Var: v, Term: t} }
func output(t api.Term) api.Step     { return api.Step{Do: api.Output, Term: t} }
func release(v, h int) api.Step      { return api.Step{Do: api.Release, Var: v, N: h} }
func test(t api.Term, then, other []api.Step) api.Step {
	return api.Step{Do: api.If, Term: t, Then: then, Else: other}
}
func loop(n int, t api.Term, then []api.Step) api.Step {
	return api.Step{Do: api.Loop, N: n, Term: t, Then: then}
}

// vars are inputs of each kind between locals.
func vars() []api.Var {
	return []api.Var{
		{Name: "a", Low: -1, High: 3, Init: 2}, {Name: "s", Kind: api.Secret, High: 2}, {Name: "b", High: 3}, {Name: "p", Kind: api.Public, Low: 1, High: 2},
		{Name: "c", Low: -4, High: 2, Init: -1}, {Name: "r", Kind: api.Random, High: 1}, {Name: "t", Kind: api.Secret, Low: -2, High: 1},
	}
}

var (
	locals = []int{0, 2, 4}
	inputs = []int{1, 3, 5, 6}
)

func hatches() []api.Hatch {
	return []api.Hatch{{Name: "h", Low: -1, High: 1, Term: op(api.OpSub, ref(1), ref(3))}, {Name: "k", High: 9, Term: op(api.OpMul, ref(6), lit(-3))}, {Name: "one", High: 1, Term: lit(1)}}
}

// generator makes random programs.
type generator struct {
	*rand.Rand
}

func newGenerator(seed int64) generator {
	return generator{rand.New(rand.NewSource(seed))}
}

// term returns a term, mostly over locals.
func (g generator) term() api.Term {
	kinds := []api.Op{api.OpAdd, api.OpSub, api.OpLt, api.OpEq, api.OpMod, api.OpMax, api.OpAnd}
	variable := func() api.Term { return ref(locals[g.Intn(len(locals))]) }
	switch g.Intn(8) {
	case 0, 1:
		return lit(g.Intn(4) - 1)
	case 2:
		return ref(inputs[g.Intn(len(inputs))])
	case 3:
		return variable()
	case 4:
		return op(api.OpSelect, variable(), ref(g.Intn(len(vars()))), lit(1), variable())
	}
	return op(kinds[g.Intn(len(kinds))], variable(), lit(g.Intn(3)))
}

func (g generator) steps(most, depth int) []api.Step {
	var list []api.Step
	for range g.Intn(most + 1) {
		s := g.step(depth)
		s.Cost = g.Intn(4) / 3 // mostly 0, so that branches often take the same time
		list = append(list, s)
	}
	return list
}

func (g generator) step(depth int) api.Step {
	kind := g.Intn(9)
	if depth <= 1 && kind < 4 {
		kind += 4
	}
	switch kind {
	case 0, 1:
		return test(g.term(), g.steps(3, depth-1), g.steps(2, depth-1))
	case 2, 3:
		return loop(g.Intn(3), g.term(), g.steps(3, depth-1))
	case 4, 5:
		return set(locals[g.Intn(len(locals))], g.term())
	case 6, 7:
		return output(g.term())
	}
	return release(locals[g.Intn(len(locals))], g.Intn(len(hatches())))
}

// program returns a valid program.
func (g generator) program() api.Flat {
	for {
		f := api.Flat{Vars: vars(), Hatches: hatches(), Body: g.steps(7, 4)}
		if g.Intn(3) == 0 {
			f.Body = append(f.Body, api.Step{Do: api.Settle, Cost: g.Intn(2), Bounds: []int{g.Intn(12), 20, 50}})
		}
		if flat.Check(f) == api.OK {
			return f
		}
	}
}

// allInputs returns all values of the inputs of vars.
func allInputs() []api.Inputs {
	var all []api.Inputs
	for i := range 3 * 4 * 2 * 2 {
		all = append(all, api.Inputs{Secret: []int{i % 3, i/3%4 - 2}, Public: []int{i/12%2 + 1}, Random: []int{i / 24}})
	}
	return all
}

// bodies calls visit with every list of so many steps, counted with those inside.
func bodies(size int, visit func(list []api.Step)) {
	if size == 0 {
		visit(nil)
		return
	}
	for first := 1; first <= size; first++ {
		shapes(first, func(s api.Step) {
			bodies(size-first, func(rest []api.Step) { visit(slices.Concat([]api.Step{s}, rest)) })
		})
	}
}

// shapes calls visit with every such step that has, itself counted, so many steps.
func shapes(size int, visit func(s api.Step)) {
	if size == 1 {
		for _, s := range []api.Step{set(0, op(api.OpAdd, ref(2), ref(1))), set(2, ref(0)), output(ref(0)), release(2, 0), {Do: api.Wait, Cost: 1}} {
			visit(s)
		}
	}
	bodies(size-1, func(inside []api.Step) {
		visit(loop(2, ref(0), inside))
		visit(loop(1, lit(1), inside))
	})
	for n := range size {
		bodies(n, func(then []api.Step) {
			bodies(size-1-n, func(other []api.Step) { visit(test(ref(2), then, other)) })
		})
	}
}

// each calls visit with a program for every body of at most 3 steps, and with random programs.
func each(t *testing.T, random int, visit func(f api.Flat)) {
	t.Helper()
	count := 0
	for size := range 4 {
		bodies(size, func(list []api.Step) {
			visit(api.Flat{Vars: vars(), Hatches: hatches(), Body: list})
			count++
		})
	}
	if count < 1000 {
		t.Fatalf("%d programs", count)
	}
	source := newGenerator(int64(random))
	for range random {
		visit(source.program())
	}
}
