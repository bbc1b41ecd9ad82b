package ssa_test

import (
	"math/rand"
	"testing"

	"keyhole/api"
	"keyhole/cfg"
	"keyhole/flat"
	"keyhole/sample"
)

var lit, ref, op = sample.Lit, sample.Ref, sample.Op

// set, output, test and loop make steps with costs that tell them apart.
func set(v int, t api.Term) api.Step { return api.Step{Do: api.Assign, Cost: 1, Var: v, Term: t} }
func output(t api.Term) api.Step     { return api.Step{Do: api.Output, Cost: 5, Term: t} }
func test(t api.Term, then, other []api.Step) api.Step {
	return api.Step{Do: api.If, Cost: 10, Term: t, Then: then, Else: other}
}
func loop(n int, t api.Term, then []api.Step) api.Step {
	return api.Step{Do: api.Loop, Cost: 100, N: n, Term: t, Then: then}
}

var vars, allInputs = sample.Vars, sample.AllInputs

var locals = sample.Locals()

func hatches() []api.Hatch {
	return []api.Hatch{{Name: "h", Low: -1, High: 1, Term: op(api.OpSub, ref(1), ref(3))}, {Name: "k", High: 9, Term: op(api.OpMul, ref(6), lit(-3))}}
}

// generator makes random programs and forms.
type generator struct {
	*rand.Rand
}

func newGenerator(seed int64) generator {
	return generator{rand.New(rand.NewSource(seed))}
}

// term returns a term over the variables, mostly over locals.
func (g generator) term() api.Term {
	kinds := []api.Op{api.OpAdd, api.OpSub, api.OpLt, api.OpEq, api.OpMod, api.OpMax, api.OpAnd}
	variable := func() api.Term {
		if g.Intn(3) > 0 {
			return ref(locals[g.Intn(len(locals))])
		}
		return ref(g.Intn(len(vars())))
	}
	switch g.Intn(6) {
	case 0:
		return lit(g.Intn(5) - 1)
	case 1:
		return variable()
	case 2:
		return op(api.OpCond, variable(), variable(), variable())
	}
	return op(kinds[g.Intn(len(kinds))], variable(), lit(g.Intn(3)))
}

func (g generator) steps(most, depth int) []api.Step {
	var list []api.Step
	for range g.Intn(most + 1) {
		list = append(list, g.step(depth))
	}
	return list
}

func (g generator) step(depth int) api.Step {
	kind := g.Intn(10)
	if depth <= 1 && kind < 4 {
		kind += 4
	}
	switch kind {
	case 0, 1:
		return test(g.term(), g.steps(3, depth-1), g.steps(2, depth-1))
	case 2, 3:
		return loop(g.Intn(4), g.term(), g.steps(3, depth-1))
	case 4, 5, 6:
		return set(locals[g.Intn(len(locals))], g.term())
	case 7:
		return output(g.term())
	case 8:
		return api.Step{Do: api.Release, Cost: g.Intn(9), Var: locals[g.Intn(len(locals))], N: g.Intn(2)}
	}
	return api.Step{Do: api.Wait, Cost: g.Intn(20)}
}

// program returns a valid program.
func (g generator) program() api.Flat {
	for {
		f := api.Flat{Vars: vars(), Hatches: hatches(), Body: g.steps(7, 4)}
		if g.Intn(3) == 0 {
			f.Body = append(f.Body, api.Step{Do: api.Settle, Cost: g.Intn(9), Bounds: []int{10 + g.Intn(10), 30, 50 + g.Intn(200)}})
		}
		if flat.Check(f) == api.OK {
			return f
		}
	}
}

// inputs returns values of the inputs of vars, each within its bounds.
func (g generator) inputs() api.Inputs {
	return allInputs()[g.Intn(len(allInputs()))]
}

// kit has steps of which small programs are made.
func kit() sample.Kit {
	return sample.Kit{
		Single: []api.Step{set(0, op(api.OpAdd, ref(0), lit(1))), set(2, ref(0)), output(ref(2))},
		Loops:  []api.Step{loop(2, ref(0), nil)},
		Ifs:    []api.Step{test(ref(2), nil, nil)},
	}
}

// each calls visit with a program for every body of at most 3 steps, and with random programs, each with its control-flow graph.
func each(t *testing.T, random int, visit func(f api.Flat, g api.Cfg)) {
	t.Helper()
	count := 0
	for size := range 4 {
		kit().Bodies(size, func(list []api.Step) {
			f := api.Flat{Vars: vars(), Hatches: hatches(), Body: list}
			visit(f, graph(t, f))
			count++
		})
	}
	if count < 400 {
		t.Fatalf("%d programs", count)
	}
	source := newGenerator(int64(random))
	for range random {
		f := source.program()
		visit(f, graph(t, f))
	}
}

// graph returns the control-flow graph of a valid program.
func graph(t *testing.T, f api.Flat) api.Cfg {
	t.Helper()
	g, code := cfg.Build(f)
	if code != api.OK {
		t.Fatalf("Build = %d: %+v", code, f)
	}
	return g
}
