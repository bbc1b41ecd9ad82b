package cfg_test

import (
	"math"
	"reflect"
	"slices"
	"testing"

	"keyhole/api"
	"keyhole/cfg"
	"keyhole/flat"
)

// equal reports whether two observations are equal.
func equal(a, b api.Observation) bool {
	return slices.Equal(a.Outputs, b.Outputs) && a.Time == b.Time
}

// checkRun compares Run and Walk with layer 17 and with the model.
func checkRun(t *testing.T, f api.Flat, in api.Inputs) *runner {
	t.Helper()
	g := graph(t, f)
	want, wantCode := flat.Run(f, in)
	if got, code := cfg.Run(f, g, in); !equal(got, want) || code != wantCode {
		t.Fatalf("Run = %v, %d, want %v, %d: %v, %+v", got, code, want, wantCode, in, f)
	}
	path, code := cfg.Walk(f, g, in)
	if code != wantCode {
		t.Fatalf("Walk has code %d, want %d: %v, %+v", code, wantCode, in, f)
	}
	if code != api.OK {
		if len(path) > 0 {
			t.Fatalf("Walk = %v, %d", path, code)
		}
		return nil
	}
	model := runModel(f, in)
	if !slices.Equal(path, model.path) {
		t.Fatalf("Walk = %v, want %v: %v, %+v", path, model.path, in, f)
	}
	return model
}

func TestP20_3Run(t *testing.T) {
	source := newGenerator(203)
	outputs, ends, times := 0, 0, map[int]bool{}
	each(t, 6000, func(f api.Flat) {
		in := source.inputs()
		model := checkRun(t, f, in)
		seen, _ := cfg.Run(f, graph(t, f), in)
		outputs += len(seen.Outputs)
		ends += model.ends
		times[seen.Time] = true
	})
	if outputs < 3000 || ends < 1000 || len(times) < 300 {
		t.Errorf("%d outputs, %d loops end at their limits, %d times", outputs, ends, len(times))
	}
}

// TestP20_3All runs programs with all inputs.
func TestP20_3All(t *testing.T) {
	source := newGenerator(2032)
	for range 60 {
		f := source.program()
		for i := range 3 * 4 * 2 * 2 {
			checkRun(t, f, api.Inputs{Secret: []int{i % 3, i/3%4 - 2}, Public: []int{i/12%2 + 1}, Random: []int{i / 24}})
		}
	}
}

// TestP20_3Steps has values that are clamped, hatches that keep their values, and times that settle.
func TestP20_3Steps(t *testing.T) {
	f := api.Flat{
		Vars:    []api.Var{{Name: "x", Low: -2, High: 2, Init: 1}, {Name: "s", Kind: api.Secret, Low: -9, High: 9}},
		Hatches: []api.Hatch{{Name: "h", Low: -5, High: 1, Term: op(api.OpMul, ref(1), lit(2))}},
		Body: []api.Step{
			{Do: api.Output, Cost: 1, Term: ref(0)}, {Do: api.Assign, Cost: 2, Term: op(api.OpMul, ref(1), lit(3))}, {Do: api.Output, Cost: 4, Term: op(api.OpMul, ref(0), lit(100))},
			{Do: api.Release, Cost: 8}, {Do: api.Output, Cost: 16, Term: ref(0)}, {Do: api.Wait, Cost: 1 << 20}, {Do: api.Settle, Cost: 32, Bounds: []int{0, 1<<20 + 63, 1 << 21}},
		},
	}
	for _, c := range []struct {
		secret, time int
		outputs      []int
	}{{9, 1<<20 + 63, []int{1, 200, 1}}, {0, 1<<20 + 63, []int{1, 0, 0}}, {-1, 1<<20 + 63, []int{1, -200, -2}}, {-9, 1<<20 + 63, []int{1, -200, -2}}} {
		in := api.Inputs{Secret: []int{c.secret}}
		if got, code := cfg.Run(f, graph(t, f), in); !equal(got, api.Observation{Outputs: c.outputs, Time: c.time}) || code != api.OK {
			t.Errorf("Run with %d = %v, %d", c.secret, got, code)
		}
		checkRun(t, f, in)
	}
	f.Body[5].Cost++
	if got, code := cfg.Run(f, graph(t, f), api.Inputs{Secret: []int{0}}); got.Time != 1<<21 || code != api.OK {
		t.Errorf("Run = %v, %d", got, code)
	}
	if got, code := cfg.Run(api.Flat{}, graph(t, api.Flat{}), api.Inputs{}); !equal(got, api.Observation{}) || code != api.OK {
		t.Errorf("Run of nothing = %v, %d", got, code)
	}
}

func TestP20_3Errors(t *testing.T) {
	f := api.Flat{Vars: vars(), Hatches: hatches(), Body: []api.Step{{Do: api.Output, Term: ref(1)}}}
	g := graph(t, f)
	two, one := []int{1, 1}, []int{1}
	for i, c := range []struct {
		in   api.Inputs
		code api.Code
	}{
		{api.Inputs{}, api.ErrArgument}, {api.Inputs{Secret: one, Public: one, Random: one}, api.ErrArgument}, {api.Inputs{Secret: two, Public: two, Random: one}, api.ErrArgument}, {api.Inputs{Secret: two, Public: one}, api.ErrArgument},
		{api.Inputs{Secret: []int{9, 9}, Public: []int{9}, Random: two}, api.ErrArgument}, {api.Inputs{Secret: []int{3, 1}, Public: one, Random: one}, api.ErrRange}, {api.Inputs{Secret: []int{1, -3}, Public: one, Random: one}, api.ErrRange},
		{api.Inputs{Secret: two, Public: []int{0}, Random: one}, api.ErrRange}, {api.Inputs{Secret: two, Public: one, Random: []int{2}}, api.ErrRange}, {api.Inputs{Secret: []int{math.MaxInt, math.MinInt}, Public: one, Random: one}, api.ErrRange},
	} {
		if wrong := refused(f, g, c.in, c.code); len(wrong) > 0 {
			t.Errorf("%d: wrong results of %v", i, wrong)
		}
		checkRun(t, f, c.in)
	}
}

// TestP20_3Long has runs that execute as many steps as they may.
func TestP20_3Long(t *testing.T) {
	nested := []api.Step{set(0, op(api.OpAdd, ref(0), lit(1)))}
	for range 9 {
		nested = []api.Step{loop(2, lit(1), nested)}
	}
	for i, c := range []struct {
		body   []api.Step
		passes int
	}{
		{[]api.Step{loop(2047, lit(1), []api.Step{set(0, op(api.OpAdd, ref(0), lit(3)))}), {Do: api.Output, Term: ref(0)}}, 2 + 1 + 2048 + 2047 + 1},
		{[]api.Step{loop(4095, lit(-1), nil)}, 2 + 1 + 4096}, {nested, 2 + 511*2 + 1022 + 512},
	} {
		f := api.Flat{Vars: []api.Var{{Name: "x", High: 1 << 19}}, Body: c.body}
		if model := checkRun(t, f, api.Inputs{}); len(model.path) != c.passes {
			t.Errorf("%d: %d nodes are passed", i, len(model.path))
		}
	}
}

func TestP20_4Walk(t *testing.T) {
	source := newGenerator(204)
	each(t, 4000, func(f api.Flat) {
		g := graph(t, f)
		all, in := places(f), source.inputs()
		path, code := cfg.Walk(f, g, in)
		if code != api.OK || path[0] != 0 || path[len(path)-1] != len(g.Nodes)-1 {
			t.Fatalf("Walk = %v, %d", path, code)
		}
		passes := make([]int, len(g.Nodes))
		for i, node := range path {
			passes[node]++
			if i > 0 && g.Nodes[path[i-1]].Next != node && g.Nodes[path[i-1]].Other != node {
				t.Fatalf("Walk = %v: %v", path, g)
			}
		}
		for node, n := range g.Nodes {
			if n.Kind == api.NodeHead && passes[node] > (all[n.At].N+1)*passes[node-1] {
				t.Fatalf("Walk = %v: %+v", path, f)
			}
		}
		if passes[0] != 1 || passes[len(g.Nodes)-1] != 1 {
			t.Fatalf("Walk = %v", path)
		}
	})
}

// TestP20_4Rounds enters a loop again, whose counter begins at 0 then.
func TestP20_4Rounds(t *testing.T) {
	f := api.Flat{Vars: []api.Var{{Name: "x", High: 9}}, Body: []api.Step{loop(2, lit(1), []api.Step{loop(3, op(api.OpLt, ref(0), lit(4)), []api.Step{set(0, op(api.OpAdd, ref(0), lit(1)))})})}}
	want := []int{0, 1, 2, 3, 4, 5, 4, 5, 4, 5, 4, 2, 3, 4, 5, 4, 2, 6}
	if path, code := cfg.Walk(f, graph(t, f), api.Inputs{}); !slices.Equal(path, want) || code != api.OK {
		t.Errorf("Walk = %v, %d, want %v", path, code, want)
	}
	// At its limit a loop ends without its cost.
	if seen, code := cfg.Run(f, graph(t, f), api.Inputs{}); seen.Time != 2*100+5*100+4 || code != api.OK {
		t.Errorf("Run = %v, %d", seen, code)
	}
}

func TestP20_5Reaching(t *testing.T) {
	total := 0
	each(t, 3000, func(f api.Flat) {
		g := graph(t, f)
		lists, code := cfg.Reaching(f, g)
		if want := reachingModel(f, g); code != api.OK || !slices.EqualFunc(lists, want, slices.Equal) {
			t.Fatalf("Reaching = %v, %d, want %v: %+v", lists, code, want, f)
		}
		for _, list := range lists {
			total += len(list)
		}
	})
	if total < 100000 {
		t.Errorf("%d definitions", total)
	}
}

// TestP20_5Last expects that the definitions that a walk has executed last reach each node that it passes, the exit among them.
func TestP20_5Last(t *testing.T) {
	source := newGenerator(205)
	steps := 0
	each(t, 3000, func(f api.Flat) {
		g := graph(t, f)
		lists, code := cfg.Reaching(f, g)
		if code != api.OK {
			t.Fatalf("Reaching has code %d", code)
		}
		size := flat.Size(f)
		model := runModel(f, source.inputs())
		for i, node := range model.path[1:] {
			for v, definition := range model.then[i+1] {
				if !slices.Contains(lists[node], definition) {
					t.Fatalf("the definition %d of %d does not reach %d: %v, %+v", definition, v, node, lists, f)
				}
				if definition < size {
					steps++
				}
			}
		}
	})
	if steps < 20000 {
		t.Errorf("%d definitions by steps", steps)
	}
}

func TestP20_5Examples(t *testing.T) {
	x, y := 0, 1
	for i, c := range []struct {
		body []api.Step
		node int
		want []int
	}{
		{nil, 0, nil}, {nil, 1, []int{0, 1}}, {[]api.Step{set(x, lit(1))}, 1, []int{1, 2}}, {[]api.Step{set(x, lit(1))}, 2, []int{0, 2}}, {[]api.Step{set(x, lit(1)), set(x, lit(1))}, 3, []int{1, 3}},
		// A definition reaches its own node round a loop, and the head of the loop, but not its NodeEnter.
		{[]api.Step{loop(2, lit(1), []api.Step{set(y, ref(y))})}, 3, []int{1, 2, 3}}, {[]api.Step{loop(2, lit(1), []api.Step{set(y, ref(y))})}, 1, []int{2, 3}}, {[]api.Step{loop(2, lit(1), []api.Step{set(y, ref(y))})}, 4, []int{1, 2, 3}},
		{[]api.Step{loop(2, lit(1), []api.Step{set(y, lit(0)), set(y, lit(1))})}, 3, []int{2, 3, 4}}, {[]api.Step{loop(2, lit(1), []api.Step{set(y, lit(0)), set(y, lit(1))})}, 4, []int{1, 3}},
		// Both branches define it, so nothing else reaches the exit; paths count that no run takes.
		{[]api.Step{test(lit(1), []api.Step{set(x, lit(0))}, []api.Step{set(x, lit(1)), set(y, lit(1))})}, 5, []int{1, 2, 3, 5}}, {[]api.Step{loop(0, lit(0), []api.Step{set(x, lit(0))})}, 4, []int{1, 2, 3}},
		{[]api.Step{{Do: api.Release, Var: y}, {Do: api.Output, Term: ref(y)}}, 3, []int{0, 2}},
	} {
		f := api.Flat{Vars: []api.Var{{Name: "x", High: 1}, {Name: "y", High: 1}}, Hatches: []api.Hatch{{Name: "h"}}, Body: c.body}
		if lists, code := cfg.Reaching(f, graph(t, f)); code != api.OK || !slices.Equal(lists[c.node], c.want) {
			t.Errorf("%d: Reaching = %v, %d, want %v", i, lists, code, c.want)
		}
	}
}

// results returns all results for a program.
func results(f api.Flat, g api.Cfg, in api.Inputs) []any {
	built, _ := cfg.Build(f)
	edges, _ := cfg.Graph(g)
	seen, _ := cfg.Run(f, g, in)
	path, _ := cfg.Walk(f, g, in)
	lists, _ := cfg.Reaching(f, g)
	return []any{built, edges, seen, path, lists}
}

// TestMemory expects that arguments stay as they are, and that results share no memory with them or with each other.
func TestMemory(t *testing.T) {
	source := newGenerator(20)
	for range 200 {
		f, in := source.program(), source.inputs()
		g := graph(t, f)
		text, kept := flat.Text(f), slices.Clone(g.Nodes)
		keptIn := api.Inputs{Secret: slices.Clone(in.Secret), Public: slices.Clone(in.Public), Random: slices.Clone(in.Random)}
		first, second := results(f, g, in), results(f, g, in)
		if !reflect.DeepEqual(first, second) {
			t.Fatalf("the results differ: %v, %v", first, second)
		}
		for _, result := range first {
			spoil(reflect.ValueOf(result))
		}
		if flat.Text(f) != text || !slices.Equal(g.Nodes, kept) || !reflect.DeepEqual(in, keptIn) || !reflect.DeepEqual(results(f, g, in), second) {
			t.Fatalf("something is shared: %+v", f)
		}
	}
	// Lists of one result do not share memory either.
	f := example()
	lists, _ := cfg.Reaching(f, graph(t, f))
	for i := range lists {
		lists[i] = append(lists[i], 99)
		for k := range lists[i] {
			lists[i][k] = 77 + i
		}
	}
	for i, list := range lists {
		if slices.ContainsFunc(list, func(n int) bool { return n != 77+i }) {
			t.Errorf("lists share memory: %v", lists)
		}
	}
}

// spoil changes all memory of a value.
func spoil(v reflect.Value) {
	switch v.Kind() {
	case reflect.Struct:
		for i := range v.NumField() {
			spoil(v.Field(i))
		}
	case reflect.Slice, reflect.Array:
		for i := range v.Len() {
			spoil(v.Index(i))
		}
	case reflect.Int:
		if v.CanSet() {
			v.SetInt(-77)
		}
	}
}
