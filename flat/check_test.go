package flat_test

import (
	"reflect"
	"slices"
	"strings"
	"testing"

	"keyhole/api"
	"keyhole/flat"
)

// first is the first example of the chapter.
func first() api.Flat {
	return api.Flat{
		Vars: []api.Var{{Name: "x", Kind: api.Secret, High: 3}, {Name: "y", High: 2, Init: 1}},
		Body: []api.Step{
			{Do: api.Assign, Cost: 2, Var: 1, Term: op(api.OpAdd, ref(0), lit(1))}, {Do: api.Output, Cost: 1, Term: ref(1)},
			{Do: api.Wait, Cost: 5}, {Do: api.Settle, Bounds: []int{4, 10, 20}},
		},
	}
}

// whole has a step of each kind, and inputs of each kind: x, a secret from -2 to 5; y, a local from 0 to 9; p, public; r,
// random; and the hatches h and h.2.
func whole() api.Flat {
	return api.Flat{
		Vars:    []api.Var{{Name: "x", Kind: api.Secret, Low: -2, High: 5}, {Name: "y", High: 9, Init: 3}, {Name: "p", Kind: api.Public, Low: 1, High: 4}, {Name: "r", Kind: api.Random, High: 1}},
		Hatches: []api.Hatch{{Name: "h", Low: -1, High: 1, Term: op(api.OpSub, ref(0), ref(2))}, {Name: "h.2", Low: 7, High: 7, Term: lit(0)}},
		Body: []api.Step{
			{Do: api.Assign, Cost: 1, Var: 1, Term: op(api.OpMul, ref(0), ref(2))},
			{Do: api.If, Cost: 2, Term: op(api.OpGt, ref(1), lit(4)), Then: []api.Step{{Do: api.Output, Cost: 3, Term: ref(1)}}, Else: []api.Step{{Do: api.Wait, Cost: 4}, {Do: api.Release, Cost: 5, Var: 1, N: 1}}},
			{Do: api.Loop, Cost: 6, N: 3, Term: ref(1), Then: []api.Step{{Do: api.Assign, Cost: 7, Var: 1, Term: op(api.OpSub, ref(1), lit(1))}}},
			{Do: api.Settle, Cost: 8, Bounds: []int{20, 50}},
		},
	}
}

func TestP17_1Valid(t *testing.T) {
	for i, f := range []api.Flat{{}, first(), whole(), {Body: []api.Step{{Do: api.Settle, Bounds: []int{0}}}}} {
		if code := flat.Check(f); code != api.OK {
			t.Errorf("%d: Check = %d", i, code)
		}
	}
	if code := flat.Check(api.Flat{Vars: []api.Var{{Name: "X"}}}); code != api.ErrName {
		t.Errorf("Check with a variable X = %d", code)
	}
}

// change is a change of the program whole, and the code that it then has.
type change struct {
	change func(f *api.Flat)
	code   api.Code
}

func expectChanges(t *testing.T, list []change) {
	t.Helper()
	for i, c := range list {
		f := whole()
		c.change(&f)
		if got := flat.Check(f); got != c.code {
			t.Errorf("%d: Check = %d, want %d", i, got, c.code)
		}
		if got := checkModel(f); got != c.code {
			t.Errorf("%d: the model says %d, want %d", i, got, c.code)
		}
	}
}

func TestP17_1Variables(t *testing.T) {
	var list []change
	for _, name := range []string{"", "X", "1", ".a", "_a", "aB", "a b", "a-b", "ä", "a\x00", "a\n", strings.Repeat("a", 41)} {
		list = append(list, change{func(f *api.Flat) { f.Vars[2].Name = name }, api.ErrName}, change{func(f *api.Flat) { f.Hatches[1].Name = name }, api.ErrName})
	}
	for _, name := range []string{"a", "z9", "a.", "a_", "a.0._", "if", "begin", strings.Repeat("z", 40)} {
		list = append(list, change{func(f *api.Flat) { f.Vars[2].Name = name }, api.OK}, change{func(f *api.Flat) { f.Hatches[1].Name = name }, api.OK})
	}
	expectChanges(t, append(list, []change{
		{func(f *api.Flat) { f.Vars[2].Name = "x" }, api.ErrDuplicate}, {func(f *api.Flat) { f.Hatches[1].Name = "h" }, api.ErrDuplicate}, {func(f *api.Flat) { f.Hatches[1].Name = "x" }, api.OK},
		{func(f *api.Flat) { f.Vars[2].Kind = 4 }, api.ErrArgument}, {func(f *api.Flat) { f.Vars[2].Kind = -1 }, api.ErrArgument}, {func(f *api.Flat) { f.Vars[1].Kind = 1 << 62 }, api.ErrArgument},
		{func(f *api.Flat) { f.Vars[2].Low = 5 }, api.ErrRange}, {func(f *api.Flat) { f.Vars[2].Low = 4 }, api.OK},
		{func(f *api.Flat) { f.Vars = append(f.Vars, api.Var{Name: "z", Low: -1 << 20, High: 1 << 20}) }, api.OK}, {func(f *api.Flat) { f.Vars[1].Low = -1<<20 - 1 }, api.ErrRange}, {func(f *api.Flat) { f.Vars[1].Low = -1 << 63 }, api.ErrRange},
		{func(f *api.Flat) { f.Vars[1].High = 1 << 20 }, api.OK}, {func(f *api.Flat) { f.Vars[1].High = 1<<20 + 1 }, api.ErrRange}, {func(f *api.Flat) { f.Vars[1].High = 1<<63 - 1 }, api.ErrRange},
		{func(f *api.Flat) { f.Vars[1].Init = 0 }, api.OK}, {func(f *api.Flat) { f.Vars[1].Init = 9 }, api.OK}, {func(f *api.Flat) { f.Vars[1].Init = -1 }, api.ErrRange}, {func(f *api.Flat) { f.Vars[1].Init = 10 }, api.ErrRange},
		{func(f *api.Flat) { f.Vars[0].Init = 1 }, api.ErrRange}, {func(f *api.Flat) { f.Vars[2].Init = 1 }, api.ErrRange}, {func(f *api.Flat) { f.Vars[3].Init = 1 }, api.ErrRange},
		// The space of inputs: 8 secret vectors, 4 public ones, 2 random ones so far.
		{func(f *api.Flat) { f.Vars = append(f.Vars, api.Var{Name: "z", Kind: api.Secret, High: 511}) }, api.OK}, {func(f *api.Flat) { f.Vars = append(f.Vars, api.Var{Name: "z", Kind: api.Secret, High: 512}) }, api.ErrLimit},
		{func(f *api.Flat) { f.Vars = append(f.Vars, api.Var{Name: "z", Kind: api.Public, High: 1023}) }, api.OK}, {func(f *api.Flat) { f.Vars = append(f.Vars, api.Var{Name: "z", Kind: api.Public, High: 1024}) }, api.ErrLimit},
		{func(f *api.Flat) { f.Vars = append(f.Vars, api.Var{Name: "z", Kind: api.Random, High: 127}) }, api.OK}, {func(f *api.Flat) { f.Vars = append(f.Vars, api.Var{Name: "z", Kind: api.Random, High: 128}) }, api.ErrLimit},
		{func(f *api.Flat) { f.Vars[3] = api.Var{Name: "z", Kind: api.Public, Low: -1 << 20, High: 1 << 20} }, api.ErrLimit},
		// The errors of a variable in their order, and those of an earlier one first.
		{func(f *api.Flat) { f.Vars[0].Init, f.Vars[1].Name = 1, "" }, api.ErrRange}, {func(f *api.Flat) { f.Vars[1].Name, f.Vars[1].Kind = "x", 7 }, api.ErrDuplicate}, {func(f *api.Flat) { f.Vars[1].Kind, f.Vars[1].High = 7, -1 }, api.ErrArgument},
		{func(f *api.Flat) { f.Vars[0].High, f.Vars[3].Name = 1<<19, "R" }, api.ErrName}, {func(f *api.Flat) { f.Vars[0].High, f.Hatches[0].Name = 1<<19, "R" }, api.ErrLimit},
	}...))
}

func TestP17_1Hatches(t *testing.T) {
	expectChanges(t, []change{
		{func(f *api.Flat) { f.Hatches[1].Low = 8 }, api.ErrRange}, {func(f *api.Flat) { f.Hatches[1].Low = -1<<20 - 1 }, api.ErrRange}, {func(f *api.Flat) { f.Hatches[1].High = 1<<20 + 1 }, api.ErrRange}, {func(f *api.Flat) { f.Hatches[1].Low = -1 << 20 }, api.OK},
		{func(f *api.Flat) { f.Hatches[1].Term = ref(1) }, api.ErrArgument}, {func(f *api.Flat) { f.Hatches[1].Term = op(api.OpNeg, ref(1)) }, api.ErrArgument}, {func(f *api.Flat) { f.Hatches[1].Term = ref(4) }, api.ErrArgument}, {func(f *api.Flat) { f.Hatches[1].Term = ref(-1) }, api.ErrArgument},
		{func(f *api.Flat) { f.Hatches[1].Term = ref(0) }, api.OK}, {func(f *api.Flat) { f.Hatches[1].Term = ref(2) }, api.OK}, {func(f *api.Flat) { f.Hatches[1].Term = ref(3) }, api.OK},
		{func(f *api.Flat) { f.Hatches[1].Term = lit(1<<20 + 1) }, api.ErrRange}, {func(f *api.Flat) { f.Hatches[1].Term = lit(-1 << 20) }, api.OK},
		{func(f *api.Flat) { f.Hatches[0].Term, f.Hatches[1].Name = lit(1<<21), "" }, api.ErrRange}, {func(f *api.Flat) { f.Hatches[0].Term, f.Hatches[0].Low = ref(1), 2 }, api.ErrRange}, {func(f *api.Flat) { f.Hatches[1].Name, f.Hatches[1].Low = "h", 8 }, api.ErrDuplicate},
		{func(f *api.Flat) { f.Hatches[0].Term, f.Body[0].Cost = op(api.OpAdd, lit(1<<21), ref(1)), -1 }, api.ErrArgument},
		{func(f *api.Flat) { f.Hatches[0].Term, f.Body[0].Cost = lit(1<<21), -1 }, api.ErrRange},
	})
}

func TestP17_1Steps(t *testing.T) {
	expectChanges(t, []change{
		{func(f *api.Flat) { f.Body[0].Do = -1 }, api.ErrArgument}, {func(f *api.Flat) { f.Body[0].Do = 7 }, api.ErrArgument}, {func(f *api.Flat) { f.Body[0].Do = 1 << 62 }, api.ErrArgument},
		{func(f *api.Flat) { f.Body[0].Var = 0 }, api.ErrArgument}, {func(f *api.Flat) { f.Body[0].Var = 2 }, api.ErrArgument}, {func(f *api.Flat) { f.Body[0].Var = 4 }, api.ErrArgument}, {func(f *api.Flat) { f.Body[0].Var = -1 }, api.ErrArgument},
		{func(f *api.Flat) { f.Body[1].Else[1].Var = 3 }, api.ErrArgument}, {func(f *api.Flat) { f.Body[1].Else[1].N = 2 }, api.ErrArgument}, {func(f *api.Flat) { f.Body[1].Else[1].N = -1 }, api.ErrArgument}, {func(f *api.Flat) { f.Body[1].Else[1].N = 0 }, api.OK},
		{func(f *api.Flat) { f.Body[0].Cost = -1 }, api.ErrRange}, {func(f *api.Flat) { f.Body[0].Cost = 10000 }, api.OK}, {func(f *api.Flat) { f.Body[0].Cost = 10001 }, api.ErrRange}, {func(f *api.Flat) { f.Body[3].Cost = 10001 }, api.ErrRange}, {func(f *api.Flat) { f.Body[2].Cost = -1 << 63 }, api.ErrRange},
		{func(f *api.Flat) { f.Body[1].Else[0].Cost = 10001 }, api.OK}, {func(f *api.Flat) { f.Body[1].Else[0].Cost = 1<<26 - 55 }, api.OK}, {func(f *api.Flat) { f.Body[1].Else[0].Cost = 1<<26 - 54 }, api.ErrLimit}, {func(f *api.Flat) { f.Body[1].Else[0].Cost = 1 << 26 }, api.ErrLimit}, {func(f *api.Flat) { f.Body[1].Else[0].Cost = 1<<26 + 1 }, api.ErrRange}, {func(f *api.Flat) { f.Body[1].Else[0].Cost = -1 }, api.ErrRange},
		{func(f *api.Flat) { f.Body[2].N = -1 }, api.ErrRange}, {func(f *api.Flat) { f.Body[2].N = 0 }, api.OK}, {func(f *api.Flat) { f.Body[2].N = 4096 }, api.ErrLimit}, {func(f *api.Flat) { f.Body[2].N = 4097 }, api.ErrRange}, {func(f *api.Flat) { f.Body[2].N = 2045 }, api.OK}, {func(f *api.Flat) { f.Body[2].N = 2046 }, api.ErrLimit},
		{func(f *api.Flat) { f.Body[3].Bounds = nil }, api.ErrArgument}, {func(f *api.Flat) { f.Body[3].Bounds = []int{} }, api.ErrArgument}, {func(f *api.Flat) { f.Body[3].Bounds = []int{0} }, api.OK}, {func(f *api.Flat) { f.Body[3].Bounds = []int{-1} }, api.ErrArgument}, {func(f *api.Flat) { f.Body[3].Bounds = []int{-1, 5} }, api.ErrArgument},
		{func(f *api.Flat) { f.Body[3].Bounds = []int{3, 3} }, api.ErrArgument}, {func(f *api.Flat) { f.Body[3].Bounds = []int{3, 2} }, api.ErrArgument}, {func(f *api.Flat) { f.Body[3].Bounds = rising(32) }, api.OK}, {func(f *api.Flat) { f.Body[3].Bounds = rising(33) }, api.ErrArgument},
		{func(f *api.Flat) { f.Body[3].Bounds = []int{1, 1 << 26} }, api.OK}, {func(f *api.Flat) { f.Body[3].Bounds = []int{1, 1<<26 + 1} }, api.ErrRange},
		{func(f *api.Flat) { f.Body = append(f.Body, api.Step{Do: api.Wait}) }, api.ErrArgument}, {func(f *api.Flat) { f.Body[2].Then = append(f.Body[2].Then, f.Body[3]) }, api.ErrArgument}, {func(f *api.Flat) { f.Body[1].Else = append(f.Body[1].Else, f.Body[3]) }, api.ErrArgument},
		{func(f *api.Flat) { f.Body = []api.Step{{Do: api.If, Then: f.Body[3:]}} }, api.ErrArgument}, {func(f *api.Flat) { f.Body = append(f.Body, f.Body[3]) }, api.ErrArgument}, {func(f *api.Flat) { f.Body = f.Body[3:] }, api.OK},
		{func(f *api.Flat) { f.Body[0].Term = op(api.OpMul, lit(1<<10), lit(1<<10)) }, api.OK}, {func(f *api.Flat) { f.Body[0].Term = op(api.OpMul, lit(1<<10), lit(1<<10+1)) }, api.ErrRange},
		{func(f *api.Flat) { f.Body[1].Term = ref(4) }, api.ErrArgument}, {func(f *api.Flat) { f.Body[2].Term = api.Term{Op: api.OpTrue} }, api.ErrArgument}, {func(f *api.Flat) { f.Body[2].Term.N = -1 }, api.ErrArgument},
		// The errors of a step in their order, and steps in preorder.
		{func(f *api.Flat) { f.Body[0].Cost, f.Body[0].Term = -1, ref(9) }, api.ErrRange}, {func(f *api.Flat) { f.Body[0].Cost, f.Body[0].Var = -1, 0 }, api.ErrArgument}, {func(f *api.Flat) { f.Body[0].Term, f.Body[1].Do = lit(1<<21), 9 }, api.ErrRange},
		{func(f *api.Flat) { f.Body[1].Term, f.Body[1].Then[0].Do = lit(1<<21), 9 }, api.ErrRange}, {func(f *api.Flat) { f.Body[1].Then[0].Cost, f.Body[1].Else[0].Do = -1, 9 }, api.ErrRange}, {func(f *api.Flat) { f.Body[1].Else[1].Cost, f.Body[2].Do = -1, 9 }, api.ErrRange},
		{func(f *api.Flat) { f.Body[1].Else[0].Do, f.Body[2].Cost = 9, -1 }, api.ErrArgument}, {func(f *api.Flat) { f.Body[3].Bounds = []int{5, 1<<26 + 1, 3} }, api.ErrArgument}, {func(f *api.Flat) { f.Body[2].N, f.Body[2].Term = 4097, ref(9) }, api.ErrRange},
	})
}

func rising(n int) []int {
	var list []int
	for i := range n {
		list = append(list, 3*i)
	}
	return list
}

// TestP17_1Unused gives each kind of step each field that it does not use.
func TestP17_1Unused(t *testing.T) {
	base := []api.Step{
		{Do: api.Assign, Var: 1}, {Do: api.Output}, {Do: api.Wait}, {Do: api.If}, {Do: api.Loop}, {Do: api.Release, Var: 1}, {Do: api.Settle, Bounds: []int{1}},
	}
	fields := map[string]func(s *api.Step){
		"Var":    func(s *api.Step) { s.Var = 1 },
		"N":      func(s *api.Step) { s.N = 1 },
		"Term":   func(s *api.Step) { s.Term = pick(newGenerator(int64(s.Do)), lit(1), ref(0), op(api.OpNeg, lit(0))) },
		"Then":   func(s *api.Step) { s.Then = []api.Step{{Do: api.Wait}} },
		"Else":   func(s *api.Step) { s.Else = []api.Step{{Do: api.Wait}} },
		"Bounds": func(s *api.Step) { s.Bounds = []int{1} },
	}
	for _, s := range base {
		for field, set := range fields {
			f := whole()
			changed := s
			set(&changed)
			f.Body = []api.Step{changed}
			want := api.ErrArgument
			if slices.Contains(strings.Fields(usedFields[s.Do]), field) {
				want = api.OK
			}
			if got := flat.Check(f); got != want {
				t.Errorf("Check of a step %d with %s = %d, want %d", s.Do, field, got, want)
			}
			// Empty lists are no lists.
			changed = s
			changed.Then, changed.Else, changed.Term.Kids = []api.Step{}, []api.Step{}, []api.Term{}
			f.Body = []api.Step{changed}
			if got := flat.Check(f); got != api.OK {
				t.Errorf("Check of a step %d with empty lists = %d", s.Do, got)
			}
		}
	}
}

// nest returns steps of the depth.
func nest(do api.Action, depth int) []api.Step {
	list := []api.Step{{Do: api.Wait}}
	for range depth - 1 {
		list = []api.Step{{Do: do, N: truthOf(do == api.Loop), Then: list}}
	}
	return list
}

// deep returns a term of the depth.
func deep(depth int) api.Term {
	t := lit(1)
	for range depth - 1 {
		t = op(api.OpNeg, t)
	}
	return t
}

func repeat(n int, s api.Step) []api.Step {
	return slices.Repeat([]api.Step{s}, n)
}

// TestP17_1Limits has programs at the limits, and beyond.
func TestP17_1Limits(t *testing.T) {
	many := func(n int) []api.Var {
		var vars []api.Var
		for i := range n {
			vars = append(vars, api.Var{Name: strings.Repeat("a", i%40+1) + strings.Repeat(".", i/40)})
		}
		return vars[:n]
	}
	hatches := func(n int, term api.Term) []api.Hatch {
		var list []api.Hatch
		for i := range n {
			list = append(list, api.Hatch{Name: strings.Repeat("h", i+1), Term: term})
		}
		return list
	}
	for i, c := range []struct {
		f    api.Flat
		code api.Code
	}{
		{api.Flat{Vars: many(39)}, api.OK}, {api.Flat{Vars: append(many(39), many(64)[40:64]...)}, api.OK}, {api.Flat{Vars: append(many(39), many(66)[40:66]...)}, api.ErrLimit}, {api.Flat{Vars: make([]api.Var, 64)}, api.ErrName}, {api.Flat{Vars: make([]api.Var, 65)}, api.ErrLimit},
		{api.Flat{Hatches: hatches(8, lit(0))}, api.OK}, {api.Flat{Hatches: hatches(9, lit(0))}, api.ErrLimit}, {api.Flat{Hatches: make([]api.Hatch, 8)}, api.ErrName}, {api.Flat{Hatches: make([]api.Hatch, 9)}, api.ErrLimit},
		{api.Flat{Body: nest(api.If, 12)}, api.OK}, {api.Flat{Body: nest(api.If, 13)}, api.ErrLimit}, {api.Flat{Body: nest(api.Loop, 12)}, api.OK}, {api.Flat{Body: nest(api.Loop, 13)}, api.ErrLimit}, {api.Flat{Body: nest(api.Wait, 13)}, api.ErrLimit}, {api.Flat{Body: nest(api.Wait, 12)}, api.ErrArgument},
		{api.Flat{Body: []api.Step{{Do: api.If, Else: nest(api.If, 11)}}}, api.OK}, {api.Flat{Body: []api.Step{{Do: api.If, Else: nest(api.If, 12)}}}, api.ErrLimit},
		{api.Flat{Body: []api.Step{{Do: api.Output, Term: deep(12)}}}, api.OK}, {api.Flat{Body: []api.Step{{Do: api.Output, Term: deep(13)}}}, api.ErrLimit}, {api.Flat{Hatches: hatches(1, deep(12))}, api.OK}, {api.Flat{Hatches: hatches(1, deep(13))}, api.ErrLimit},
		{api.Flat{Body: nest(api.If, 12)[:1:1], Hatches: hatches(1, deep(12))}, api.OK}, {api.Flat{Body: []api.Step{{Do: api.Wait, Term: deep(13)}}}, api.ErrLimit}, {api.Flat{Body: []api.Step{{Do: api.Wait, Term: deep(12)}}}, api.ErrArgument},
		// Each step has two nodes at least: itself and its term.
		{api.Flat{Body: repeat(512, api.Step{Do: api.Wait})}, api.OK}, {api.Flat{Body: repeat(513, api.Step{Do: api.Wait})}, api.ErrLimit}, {api.Flat{Body: repeat(511, api.Step{Do: api.Wait}), Hatches: hatches(2, lit(0))}, api.OK}, {api.Flat{Body: repeat(511, api.Step{Do: api.Wait}), Hatches: hatches(3, lit(0))}, api.ErrLimit},
		{api.Flat{Body: repeat(512, api.Step{Do: 9})}, api.ErrArgument}, {api.Flat{Body: repeat(513, api.Step{Do: 9})}, api.ErrLimit}, {api.Flat{Body: repeat(1<<20, api.Step{Do: 9})}, api.ErrLimit}, {api.Flat{Body: []api.Step{{Do: api.Wait, Else: repeat(511, api.Step{Do: api.Wait})}}}, api.ErrArgument}, {api.Flat{Body: []api.Step{{Do: api.Wait, Else: repeat(512, api.Step{Do: api.Wait})}}}, api.ErrLimit},
		{api.Flat{Vars: []api.Var{{}}, Body: repeat(513, api.Step{Do: api.Wait})}, api.ErrLimit},
		// The upper bounds of what is executed.
		{api.Flat{Body: repeat(8, api.Step{Do: api.Output})}, api.OK}, {api.Flat{Body: repeat(9, api.Step{Do: api.Output})}, api.ErrLimit}, {api.Flat{Body: []api.Step{{Do: api.Loop, N: 8, Then: repeat(1, api.Step{Do: api.Output})}}}, api.OK}, {api.Flat{Body: []api.Step{{Do: api.Loop, N: 9, Then: repeat(1, api.Step{Do: api.Output})}}}, api.ErrLimit},
		{api.Flat{Body: []api.Step{{Do: api.If, Then: repeat(8, api.Step{Do: api.Output}), Else: repeat(8, api.Step{Do: api.Output})}}}, api.OK}, {api.Flat{Body: []api.Step{{Do: api.If, Else: repeat(9, api.Step{Do: api.Output})}}}, api.ErrLimit}, {api.Flat{Body: []api.Step{{Do: api.Loop, Then: repeat(9, api.Step{Do: api.Output})}}}, api.OK},
		{api.Flat{Body: []api.Step{{Do: api.Loop, N: 4095}}}, api.OK}, {api.Flat{Body: []api.Step{{Do: api.Loop, N: 4096}}}, api.ErrLimit}, {api.Flat{Body: []api.Step{{Do: api.Loop, N: 63, Then: []api.Step{{Do: api.Loop, N: 63}}}}}, api.OK}, {api.Flat{Body: []api.Step{{Do: api.Loop, N: 64, Then: []api.Step{{Do: api.Loop, N: 64}}}}}, api.ErrLimit},
		{api.Flat{Body: []api.Step{{Do: api.Wait, Cost: 1 << 26}}}, api.OK}, {api.Flat{Body: []api.Step{{Do: api.Wait, Cost: 1 << 26}, {Do: api.Settle, Bounds: []int{0}}}}, api.OK}, {api.Flat{Body: []api.Step{{Do: api.Wait, Cost: 1 << 26}, {Do: api.Output, Cost: 1}}}, api.ErrLimit},
		{api.Flat{Body: []api.Step{{Do: api.Loop, N: 64, Then: []api.Step{{Do: api.Wait, Cost: 1 << 20}}}}}, api.OK}, {api.Flat{Body: []api.Step{{Do: api.Loop, Cost: 1, N: 64, Then: []api.Step{{Do: api.Wait, Cost: 1 << 20}}}}}, api.ErrLimit}, {api.Flat{Body: []api.Step{{Do: api.Loop, Cost: 10000, N: 4095}}}, api.OK},
		// Numbers that do not fit into 64 bits: 4096 to the power of 11, times 2 to the power of 26.
		{api.Flat{Body: tower(11, 4096)}, api.ErrLimit}, {api.Flat{Body: tower(11, 1<<6)}, api.ErrLimit}, {api.Flat{Body: []api.Step{{Do: api.Loop, Then: tower(10, 4096)}}}, api.OK},
	} {
		if got := flat.Check(c.f); got != c.code {
			t.Errorf("%d: Check = %d, want %d", i, got, c.code)
		}
		if got := checkModel(c.f); got != c.code {
			t.Errorf("%d: the model says %d, want %d", i, got, c.code)
		}
	}
}

// tower returns loops within loops with as many rounds each, around an output and a long wait.
func tower(loops, rounds int) []api.Step {
	list := []api.Step{{Do: api.Wait, Cost: 1 << 26}}
	for range loops {
		list = []api.Step{{Do: api.Loop, N: rounds, Term: lit(1), Then: list}}
	}
	return list
}

func TestP17_1Model(t *testing.T) {
	g := newGenerator(171)
	codes := map[api.Code]int{}
	for i := range 30000 {
		f := clone(g.program(), i%2 == 0)
		for range g.Intn(3) {
			g.disturb(&f)
		}
		before := clone(f, true)
		want := checkModel(f)
		if got := flat.Check(f); got != want {
			t.Fatalf("Check = %d, want %d: %+v", got, want, f)
		}
		if !reflect.DeepEqual(before, clone(f, true)) {
			t.Fatalf("the argument is changed: %+v", f)
		}
		codes[want]++
	}
	for _, code := range []api.Code{api.OK, api.ErrArgument, api.ErrRange, api.ErrLimit, api.ErrName, api.ErrDuplicate} {
		if codes[code] < 50 {
			t.Errorf("only %d programs with the code %d", codes[code], code)
		}
	}
}

// TestP17_1Nested has terms and steps that are nested more deeply than any stack of a fixed size allows.
func TestP17_1Nested(t *testing.T) {
	term, steps := deep(1<<16), nest(api.If, 1<<16)
	f := api.Flat{Body: append(steps, api.Step{Do: api.Output, Term: term})}
	if code := flat.Check(f); code != api.ErrLimit {
		t.Errorf("Check = %d", code)
	}
	if text := flat.Text(f); text != "" {
		t.Errorf("Text = %d bytes", len(text))
	}
	if low, high, code := flat.Range(nil, term); low != -1 || high != -1 || code != api.OK {
		t.Errorf("Range = %d, %d, %d", low, high, code)
	}
	if value, code := flat.Eval(nil, nil, term); value != -1 || code != api.OK {
		t.Errorf("Eval = %d, %d", value, code)
	}
	if size := flat.Size(f); size != 1<<16+1 {
		t.Errorf("Size = %d", size)
	}
	if s, code := flat.At(f, 1<<16-1); s.Do != api.Wait || code != api.OK {
		t.Errorf("At = %v, %d", s, code)
	}
	if removed, code := flat.Remove(f, 1); flat.Size(removed) != 2 || code != api.OK {
		t.Errorf("Remove = %d", code)
	}
	if low, high := flat.Span(f.Body); low != 0 || high != 0 {
		t.Errorf("Span = %d, %d", low, high)
	}
	if !flat.Equal(f, f) {
		t.Errorf("Equal = false")
	}
	// Terms that share kids have more nodes than could ever be counted.
	shared := lit(1)
	for range 200 {
		shared = op(api.OpMin, shared, shared)
	}
	if code := flat.Check(api.Flat{Body: []api.Step{{Do: api.Output, Term: shared}}}); code != api.ErrLimit {
		t.Errorf("Check of a shared term = %d", code)
	}
}
