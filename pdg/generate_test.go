package pdg_test

import (
	"math/rand"
	"testing"

	"keyhole/api"
	"keyhole/flat"
	"keyhole/sample"
)

var (
	lit, ref, op  = sample.Lit, sample.Ref, sample.Op
	set, output   = sample.Set, sample.Output
	release, test = sample.Release, sample.If
)

func loop(n int, t api.Term, then []api.Step) api.Step { return sample.Loop(n, t, then...) }

var vars, allInputs = sample.Vars, sample.AllInputs

var (
	locals = sample.Locals()
	inputs = sample.Inputs()
)

func hatches() []api.Hatch {
	return []api.Hatch{{Name: "h", Low: -1, High: 1, Term: op(api.OpSub, ref(1), ref(3))}, {Name: "k", High: 9, Term: op(api.OpMul, ref(6), lit(-3))}, {Name: "one", High: 1, Term: lit(1)}}
}

// generator makes random programs.
type generator struct {
	*rand.Rand
}

func newGenerator(seed int64) generator {
	return generator{rand.New(rand.NewSource(seed))}
}

// term returns a term, mostly over locals.
func (g generator) term() api.Term {
	kinds := []api.Op{api.OpAdd, api.OpSub, api.OpLt, api.OpEq, api.OpMod, api.OpMax, api.OpAnd}
	variable := func() api.Term { return ref(locals[g.Intn(len(locals))]) }
	switch g.Intn(8) {
	case 0, 1:
		return lit(g.Intn(4) - 1)
	case 2:
		return ref(inputs[g.Intn(len(inputs))])
	case 3:
		return variable()
	case 4:
		return op(api.OpSelect, variable(), ref(g.Intn(len(vars()))), lit(1), variable())
	}
	return op(kinds[g.Intn(len(kinds))], variable(), lit(g.Intn(3)))
}

func (g generator) steps(most, depth int) []api.Step {
	var list []api.Step
	for range g.Intn(most + 1) {
		s := g.step(depth)
		s.Cost = g.Intn(4) / 3 // mostly 0, so that branches often take the same time
		list = append(list, s)
	}
	return list
}

func (g generator) step(depth int) api.Step {
	kind := g.Intn(9)
	if depth <= 1 && kind < 4 {
		kind += 4
	}
	switch kind {
	case 0, 1:
		return test(g.term(), g.steps(3, depth-1), g.steps(2, depth-1))
	case 2, 3:
		return loop(g.Intn(3), g.term(), g.steps(3, depth-1))
	case 4, 5:
		return set(locals[g.Intn(len(locals))], g.term())
	case 6, 7:
		return output(g.term())
	}
	return release(locals[g.Intn(len(locals))], g.Intn(len(hatches())))
}

// program returns a valid program.
func (g generator) program() api.Flat {
	for {
		f := api.Flat{Vars: vars(), Hatches: hatches(), Body: g.steps(7, 4)}
		if g.Intn(3) == 0 {
			f.Body = append(f.Body, api.Step{Do: api.Settle, Cost: g.Intn(2), Bounds: []int{g.Intn(12), 20, 50}})
		}
		if flat.Check(f) == api.OK {
			return f
		}
	}
}

// kit has steps of which small programs are made.
func kit() sample.Kit {
	return sample.Kit{
		Single: []api.Step{set(0, op(api.OpAdd, ref(2), ref(1))), set(2, ref(0)), output(ref(0)), release(2, 0), {Do: api.Wait, Cost: 1}},
		Loops:  []api.Step{loop(2, ref(0), nil), loop(1, lit(1), nil)},
		Ifs:    []api.Step{test(ref(2), nil, nil)},
	}
}

// each calls visit with a program for every body of at most 3 steps, and with random programs.
func each(t *testing.T, random int, visit func(f api.Flat)) {
	t.Helper()
	count := 0
	for size := range 4 {
		kit().Bodies(size, func(list []api.Step) {
			visit(api.Flat{Vars: vars(), Hatches: hatches(), Body: list})
			count++
		})
	}
	if count < 1000 {
		t.Fatalf("%d programs", count)
	}
	source := newGenerator(int64(random))
	for range random {
		visit(source.program())
	}
}
