package cfg_test

import (
	"math/rand"
	"testing"

	"keyhole/api"
	"keyhole/cfg"
	"keyhole/flat"
	"keyhole/sample"
)

var lit, ref, op = sample.Lit, sample.Ref, sample.Op

// set, wait, test and loop make steps with costs that tell them apart.
func set(v int, t api.Term) api.Step { return api.Step{Do: api.Assign, Cost: 1, Var: v, Term: t} }
func wait(cost int) api.Step         { return api.Step{Do: api.Wait, Cost: cost} }
func test(t api.Term, then, other []api.Step) api.Step {
	return api.Step{Do: api.If, Cost: 10, Term: t, Then: then, Else: other}
}
func loop(n int, t api.Term, then []api.Step) api.Step {
	return api.Step{Do: api.Loop, Cost: 100, N: n, Term: t, Then: then}
}

// example is the program of the chapter's example: x is secret, y is local.
func example() api.Flat {
	return api.Flat{
		Vars: []api.Var{{Name: "x", Kind: api.Secret, High: 2}, {Name: "y", High: 2}},
		Body: []api.Step{
			{Do: api.If, Term: ref(0), Then: []api.Step{{Do: api.Assign, Var: 1, Term: lit(1)}}},
			{Do: api.Loop, N: 2, Term: ref(1), Then: []api.Step{{Do: api.Output, Term: ref(1)}}},
		},
	}
}

// generator makes random programs.
type generator struct {
	*rand.Rand
}

func newGenerator(seed int64) generator {
	return generator{rand.New(rand.NewSource(seed))}
}

var vars = sample.Vars

var locals = sample.Locals()

func hatches() []api.Hatch {
	return []api.Hatch{{Name: "h", Low: -1, High: 1, Term: op(api.OpSub, ref(1), ref(3))}, {Name: "k", High: 9, Term: op(api.OpMul, ref(6), lit(-3))}}
}

// term returns a term over the variables.
func (g generator) term() api.Term {
	kinds := []api.Op{api.OpAdd, api.OpSub, api.OpLt, api.OpEq, api.OpMod, api.OpMax, api.OpAnd}
	switch g.Intn(4) {
	case 0:
		return lit(g.Intn(5) - 1)
	case 1:
		return ref(g.Intn(len(vars())))
	}
	return op(kinds[g.Intn(len(kinds))], ref(g.Intn(len(vars()))), lit(g.Intn(3)))
}

func (g generator) steps(most, depth int) []api.Step {
	var list []api.Step
	for range g.Intn(most + 1) {
		list = append(list, g.step(depth))
	}
	return list
}

func (g generator) step(depth int) api.Step {
	s := api.Step{Cost: g.Intn(20)}
	kind := g.Intn(9)
	if depth <= 1 && kind < 4 {
		kind += 4
	}
	switch kind {
	case 0, 1:
		s.Do, s.Term, s.Then, s.Else = api.If, g.term(), g.steps(3, depth-1), g.steps(2, depth-1)
	case 2, 3:
		s.Do, s.Term, s.N, s.Then = api.Loop, g.term(), g.Intn(4), g.steps(3, depth-1)
	case 4, 5:
		s.Do, s.Var, s.Term = api.Assign, locals[g.Intn(len(locals))], g.term()
	case 6:
		s.Do, s.Term = api.Output, g.term()
	case 7:
		s.Do, s.Var, s.N = api.Release, locals[g.Intn(len(locals))], g.Intn(2)
	default:
		s.Do = api.Wait
	}
	return s
}

// program returns a valid program.
func (g generator) program() api.Flat {
	for {
		f := api.Flat{Vars: vars(), Hatches: hatches(), Body: g.steps(7, 4)}
		if g.Intn(3) == 0 {
			f.Body = append(f.Body, api.Step{Do: api.Settle, Cost: g.Intn(9), Bounds: []int{10 + g.Intn(10), 30, 50 + g.Intn(200)}})
		}
		if flat.Check(f) == api.OK {
			return f
		}
	}
}

// inputs returns values of the inputs of vars, each within its bounds.
func (g generator) inputs() api.Inputs {
	return api.Inputs{Secret: []int{g.Intn(3), g.Intn(4) - 2}, Public: []int{1 + g.Intn(2)}, Random: []int{g.Intn(2)}}
}

// kit has steps of which small programs are made.
func kit() sample.Kit {
	return sample.Kit{Single: []api.Step{set(0, lit(1))}, Loops: []api.Step{loop(2, ref(1), nil)}, Ifs: []api.Step{test(ref(1), nil, nil)}}
}

// each calls visit with a valid program for every body of at most 4 steps, in which assignments and conditions differ, and with random programs.
func each(t *testing.T, random int, visit func(f api.Flat)) {
	t.Helper()
	count := 0
	for size := range 5 {
		kit().Bodies(size, func(list []api.Step) {
			f := api.Flat{Vars: vars(), Hatches: hatches(), Body: varied(list, new(int))}
			if code := flat.Check(f); code != api.OK {
				t.Fatalf("Check = %d: %+v", code, f)
			}
			visit(f)
			count++
		})
	}
	if count < 1000 {
		t.Fatalf("%d programs", count)
	}
	g := newGenerator(int64(random))
	for range random {
		visit(g.program())
	}
}

// varied returns the steps with assignments to different variables and with different conditions.
func varied(list []api.Step, count *int) []api.Step {
	var result []api.Step
	for _, s := range list {
		*count++
		switch s.Do {
		case api.Assign:
			s.Var, s.Term = locals[*count%2], lit(*count)
		default:
			s.Term = ref((*count + 1) % 3)
		}
		s.Then, s.Else = varied(s.Then, count), varied(s.Else, count)
		result = append(result, s)
	}
	return result
}

// graph returns the control-flow graph of a valid program.
func graph(t *testing.T, f api.Flat) api.Cfg {
	t.Helper()
	g, code := cfg.Build(f)
	if code != api.OK {
		t.Fatalf("Build = %d: %+v", code, f)
	}
	return g
}
