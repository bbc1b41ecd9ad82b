package slice_test

import (
	"math/rand"
	"testing"

	"keyhole/api"
	"keyhole/flat"
	"keyhole/sample"
)

var lit, ref, op = sample.Lit, sample.Ref, sample.Op

// set, output, release, test and loop make steps.
func set(v int, t api.Term) api.Step { return api.Step{Do: api.Assign, Cost: 1, Var: v, Term: t} }
func output(t api.Term) api.Step     { return api.Step{Do: api.Output, Cost: 2, Term: t} }
func release(v, h int) api.Step      { return api.Step{Do: api.Release, Cost: 3, Var: v, N: h} }
func test(t api.Term, then, other []api.Step) api.Step {
	return api.Step{Do: api.If, Cost: 4, Term: t, Then: then, Else: other}
}
func loop(n int, t api.Term, then []api.Step) api.Step {
	return api.Step{Do: api.Loop, Cost: 5, N: n, Term: t, Then: then}
}

// vars are inputs of each kind between locals.
func vars() []api.Var {
	return []api.Var{
		{Name: "s", Kind: api.Secret, High: 2}, {Name: "a", Low: -1, High: 3, Init: 2}, {Name: "p", Kind: api.Public, Low: 1, High: 2}, {Name: "b", High: 3},
		{Name: "t", Kind: api.Secret, Low: -2, High: 1}, {Name: "r", Kind: api.Random, High: 1}, {Name: "c", Low: -4, High: 2, Init: -1}, {Name: "d", High: 1},
	}
}

var (
	inputs = []int{0, 2, 4, 5}
	locals = []int{1, 3, 6, 7}
)

func hatches() []api.Hatch {
	return []api.Hatch{{Name: "h", High: 2, Term: ref(0)}, {Name: "k", Low: -9, High: 9, Term: op(api.OpMul, ref(2), ref(4))}}
}

// generator makes random programs and lists of steps.
type generator struct {
	*rand.Rand
}

func newGenerator(seed int64) generator {
	return generator{rand.New(rand.NewSource(seed))}
}

// term returns a term that refers to at most two variables, mostly to locals.
func (g generator) term() api.Term {
	local := ref(locals[g.Intn(len(locals))])
	switch g.Intn(7) {
	case 0:
		return lit(g.Intn(4) - 1)
	case 1, 2:
		return ref(inputs[g.Intn(len(inputs))])
	case 3:
		return op(api.OpCond, local, lit(2), ref(g.Intn(len(vars()))))
	case 4:
		return op(api.OpGt, local, lit(1))
	case 5:
		return op(api.OpAdd, local, lit(1))
	}
	return local
}

// step returns a step that is at most so deep, and has at most so many steps in each list.
func (g generator) step(most, depth int) api.Step {
	kind := g.Intn(12)
	if depth > 1 && kind < 5 {
		then, other := g.list(most, depth-1), g.list(most, depth-1)
		if kind < 3 {
			return test(g.term(), then, other)
		}
		return loop(g.Intn(4), g.term(), then)
	}
	local := locals[g.Intn(len(locals))]
	switch {
	case kind == 11:
		return api.Step{Do: api.Wait, Cost: 6}
	case kind == 10:
		return release(local, g.Intn(2))
	case kind > 7:
		return output(g.term())
	}
	return set(local, g.term())
}

func (g generator) list(most, depth int) []api.Step {
	var list []api.Step
	for range g.Intn(most + 1) {
		list = append(list, g.step(most-1, depth))
	}
	return list
}

// program returns a valid program.
func (g generator) program() api.Flat {
	for {
		f := api.Flat{Vars: vars(), Hatches: hatches(), Body: g.list(5, 4)}
		if g.Intn(4) == 0 {
			f.Body = append(f.Body, api.Step{Do: api.Settle, Cost: 7, Bounds: []int{g.Intn(40), 50}})
		}
		if flat.Check(f) == api.OK {
			return f
		}
	}
}

// some returns numbers below n in any order, some of them twice.
func (g generator) some(n int) []int {
	var list []int
	for range min(n, 1) * g.Intn(4) {
		list = append(list, g.Intn(n))
	}
	return list
}

// allInputs returns all values of the inputs of vars.
func allInputs() []api.Inputs {
	var all []api.Inputs
	for i := range 3 * 4 * 2 * 2 {
		all = append(all, api.Inputs{Secret: []int{i % 3, i/3%4 - 2}, Public: []int{i/12%2 + 1}, Random: []int{i / 24}})
	}
	return all
}

// kit has steps of which small programs are made.
func kit() sample.Kit {
	return sample.Kit{
		Single: []api.Step{set(1, ref(3)), set(3, ref(0)), output(ref(1)), release(1, 1)},
		Loops:  []api.Step{loop(2, ref(3), nil)},
		Ifs:    []api.Step{test(ref(1), nil, nil)},
	}
}

// each calls visit with a program for every body of at most 3 steps, and with random programs.
func each(t *testing.T, random int, visit func(f api.Flat)) {
	t.Helper()
	count := 0
	for size := range 4 {
		kit().Bodies(size, func(list []api.Step) {
			visit(api.Flat{Vars: vars(), Hatches: hatches(), Body: list})
			count++
		})
	}
	if count < 500 {
		t.Fatalf("%d programs", count)
	}
	source := newGenerator(int64(random))
	for range random {
		visit(source.program())
	}
}
