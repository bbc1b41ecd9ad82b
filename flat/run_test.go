package flat_test

import (
	"reflect"
	"slices"
	"testing"

	"keyhole/api"
	"keyhole/flat"
)

// equalSeen reports whether two observations are equal.
func equalSeen(a, b api.Observation) bool {
	return slices.Equal(a.Outputs, b.Outputs) && a.Time == b.Time
}

func TestP17_2Examples(t *testing.T) {
	in := api.Inputs{Secret: []int{3}}
	if got, code := flat.Run(first(), in); !equalSeen(got, api.Observation{Outputs: []int{2}, Time: 10}) || code != api.OK {
		t.Errorf("Run = %v, %d", got, code)
	}
	if got, code := flat.Final(first(), in); !slices.Equal(got, []int{3, 2}) || code != api.OK {
		t.Errorf("Final = %v, %d", got, code)
	}
	for _, c := range []struct{ start, time, end int }{{2, 8, 0}, {5, 9, 2}, {3, 9, 0}, {0, 2, 0}, {1, 5, 0}, {9, 9, 6}} {
		f := api.Flat{Vars: []api.Var{{Name: "x", High: 9, Init: c.start}}, Body: []api.Step{{Do: api.Loop, N: 3, Cost: 2, Term: op(api.OpGt, ref(0), lit(0)), Then: []api.Step{{Do: api.Assign, Cost: 1, Term: op(api.OpSub, ref(0), lit(1))}}}}}
		if got, code := flat.Run(f, api.Inputs{}); !equalSeen(got, api.Observation{Time: c.time}) || code != api.OK {
			t.Errorf("Run from %d = %v, %d", c.start, got, code)
		}
		if got, code := flat.Final(f, api.Inputs{}); !slices.Equal(got, []int{c.end}) || code != api.OK {
			t.Errorf("Final from %d = %v, %d", c.start, got, code)
		}
		if low, high := flat.Span(f.Body); low != 2 || high != 9 {
			t.Errorf("Span = %d, %d", low, high)
		}
	}
	if got, code := flat.Run(api.Flat{}, api.Inputs{}); !equalSeen(got, api.Observation{}) || code != api.OK {
		t.Errorf("Run of nothing = %v, %d", got, code)
	}
}

func TestP17_2Steps(t *testing.T) {
	// A run of whole takes 1 + 2 + the branch + 13 for each round of the loop, 6 for the last evaluation, and 8.
	for _, c := range []struct {
		secret, public int
		seen           api.Observation
		final          []int
	}{
		{5, 1, api.Observation{Outputs: []int{5}, Time: 1 + 2 + 3 + 39 + 8}, []int{5, 2, 1, 1}}, {-2, 4, api.Observation{Time: 1 + 2 + 9 + 39 + 8}, []int{-2, 4, 4, 1}},
		{5, 4, api.Observation{Outputs: []int{9}, Time: 53}, []int{5, 6, 4, 1}}, {1, 1, api.Observation{Time: 59}, []int{1, 4, 1, 1}},
	} {
		f, in := whole(), api.Inputs{Secret: []int{c.secret}, Public: []int{c.public}, Random: []int{1}}
		if got, code := flat.Run(f, in); !equalSeen(got, c.seen) || code != api.OK {
			t.Errorf("Run with %v = %v, %d, want %v", in, got, code, c.seen)
		}
		if got, code := flat.Final(f, in); !slices.Equal(got, c.final) || code != api.OK {
			t.Errorf("Final with %v = %v, %d, want %v", in, got, code, c.final)
		}
	}
	secret := []api.Var{{Name: "s", Kind: api.Secret, Low: -9, High: 9}, {Name: "x", Low: -2, High: 2}}
	for i, c := range []struct {
		body, hatch []api.Step
		s           int
		outputs     []int
		time        int
	}{
		// Variables are clamped, outputs are not.
		{[]api.Step{{Do: api.Assign, Var: 1, Term: ref(0)}, {Do: api.Output, Term: ref(1)}, {Do: api.Output, Cost: 7, Term: op(api.OpMul, ref(0), lit(100))}}, nil, 9, []int{2, 900}, 7},
		{[]api.Step{{Do: api.Assign, Var: 1, Term: ref(0)}, {Do: api.Output, Term: ref(1)}, {Do: api.Output, Cost: 7, Term: op(api.OpMul, ref(0), lit(100))}}, nil, -9, []int{-2, -900}, 7},
		// Every number but 0 is true.
		{[]api.Step{{Do: api.If, Cost: 3, Term: ref(0), Then: []api.Step{{Do: api.Output, Term: lit(1)}}, Else: []api.Step{{Do: api.Wait, Cost: 4}}}}, nil, -9, []int{1}, 3},
		{[]api.Step{{Do: api.If, Cost: 3, Term: ref(0), Then: []api.Step{{Do: api.Output, Term: lit(1)}}, Else: []api.Step{{Do: api.Wait, Cost: 4}}}}, nil, 0, nil, 7},
		{[]api.Step{{Do: api.If, Cost: 3, Term: ref(0), Else: []api.Step{{Do: api.Wait, Cost: 4}}}}, nil, 1, nil, 3}, {[]api.Step{{Do: api.If, Cost: 3, Term: ref(0), Then: []api.Step{{Do: api.Wait, Cost: 4}}}}, nil, 0, nil, 3},
		// A loop evaluates its term before each round; without rounds it costs nothing.
		{[]api.Step{{Do: api.Loop, Cost: 5, N: 2, Term: lit(-1), Then: []api.Step{{Do: api.Output, Cost: 1, Term: lit(4)}}}}, nil, 0, []int{4, 4}, 12}, {[]api.Step{{Do: api.Loop, Cost: 5, Term: lit(1)}}, nil, 0, nil, 0}, {[]api.Step{{Do: api.Loop, Cost: 5, N: 9}}, nil, 0, nil, 5},
		{[]api.Step{{Do: api.Loop, Cost: 1, N: 2, Term: lit(1), Then: []api.Step{{Do: api.Loop, Cost: 10, N: 3, Term: lit(1)}}}}, nil, 0, nil, 62},
		// The time settles at the first bound that is not below it, its own cost included.
		{[]api.Step{{Do: api.Wait, Cost: 5}, {Do: api.Settle, Cost: 2, Bounds: []int{0, 7, 9}}}, nil, 0, nil, 7}, {[]api.Step{{Do: api.Wait, Cost: 5}, {Do: api.Settle, Cost: 3, Bounds: []int{0, 7, 9}}}, nil, 0, nil, 9}, {[]api.Step{{Do: api.Wait, Cost: 5}, {Do: api.Settle, Cost: 5, Bounds: []int{0, 7, 9}}}, nil, 0, nil, 10}, {[]api.Step{{Do: api.Settle, Bounds: []int{0}}}, nil, 0, nil, 0},
		{[]api.Step{{Do: api.Settle, Bounds: []int{1 << 26}}}, nil, 0, nil, 1 << 26},
	} {
		f := api.Flat{Vars: secret, Body: c.body}
		if got, code := flat.Run(f, api.Inputs{Secret: []int{c.s}}); !equalSeen(got, api.Observation{Outputs: c.outputs, Time: c.time}) || code != api.OK {
			t.Errorf("%d: Run = %v, %d, want %v, %d", i, got, code, c.outputs, c.time)
		}
	}
}

// TestP17_2Hatches has hatches whose values are clamped twice, and do not change with the locals.
func TestP17_2Hatches(t *testing.T) {
	f := api.Flat{
		Vars:    []api.Var{{Name: "x", High: 5, Init: 1}, {Name: "s", Kind: api.Secret, Low: -9, High: 9}, {Name: "p", Kind: api.Public, High: 9}},
		Hatches: []api.Hatch{{Name: "sum", Low: -3, High: 8, Term: op(api.OpAdd, ref(1), ref(2))}, {Name: "less", Low: 2, High: 4, Term: op(api.OpLt, ref(1), ref(2))}},
		Body:    []api.Step{{Do: api.Release, Cost: 3, N: 0}, {Do: api.Output, Term: ref(0)}, {Do: api.Release, Cost: 4, N: 1}, {Do: api.Output, Term: ref(0)}, {Do: api.Assign}, {Do: api.Release, Cost: 5, N: 0}, {Do: api.Output, Term: ref(0)}},
	}
	for _, c := range []struct{ s, p, sum int }{{9, 9, 5}, {-9, 0, 0}, {1, 1, 2}, {3, 2, 5}, {-1, 5, 4}} {
		in := api.Inputs{Secret: []int{c.s}, Public: []int{c.p}}
		if got, code := flat.Run(f, in); !equalSeen(got, api.Observation{Outputs: []int{c.sum, 2, c.sum}, Time: 12}) || code != api.OK {
			t.Errorf("Run with %v = %v, %d, want %d", in, got, code, c.sum)
		}
	}
}

func TestP17_2Errors(t *testing.T) {
	good := whole()
	bad := whole()
	bad.Body[0].Cost = -1
	inputs := func(a, b, c []int) api.Inputs { return api.Inputs{Secret: a, Public: b, Random: c} }
	one := []int{1}
	for i, c := range []struct {
		f    api.Flat
		in   api.Inputs
		code api.Code
	}{
		{good, inputs(one, one, one), api.OK}, {bad, inputs(nil, nil, nil), api.ErrRange}, {api.Flat{Vars: []api.Var{{}}}, inputs(one, nil, nil), api.ErrName},
		{good, inputs(nil, one, one), api.ErrArgument}, {good, inputs(one, nil, one), api.ErrArgument}, {good, inputs(one, one, nil), api.ErrArgument}, {good, inputs([]int{1, 1}, one, one), api.ErrArgument}, {good, inputs(one, []int{1, 1}, one), api.ErrArgument}, {good, inputs(one, one, []int{1, 1}), api.ErrArgument},
		{good, inputs([]int{9}, []int{9}, nil), api.ErrArgument}, {good, inputs([]int{9}, []int{1, 1}, one), api.ErrArgument}, {api.Flat{}, inputs(one, nil, nil), api.ErrArgument}, {api.Flat{}, inputs([]int{}, []int{}, []int{}), api.OK},
		{good, inputs([]int{-3}, one, one), api.ErrRange}, {good, inputs([]int{-2}, one, one), api.OK}, {good, inputs([]int{5}, one, one), api.OK}, {good, inputs([]int{6}, one, one), api.ErrRange}, {good, inputs(one, []int{0}, one), api.ErrRange}, {good, inputs(one, []int{5}, one), api.ErrRange},
		{good, inputs(one, one, []int{-1}), api.ErrRange}, {good, inputs(one, one, []int{2}), api.ErrRange}, {good, inputs([]int{1<<63 - 1}, one, one), api.ErrRange}, {good, inputs([]int{-1 << 63}, one, one), api.ErrRange},
	} {
		if got, code := flat.Run(c.f, c.in); code != c.code || code != api.OK && !equalSeen(got, api.Observation{}) {
			t.Errorf("%d: Run = %v, %d, want %d", i, got, code, c.code)
		}
		if got, code := flat.Final(c.f, c.in); code != c.code || code != api.OK && got != nil {
			t.Errorf("%d: Final = %v, %d, want %d", i, got, code, c.code)
		}
	}
}

// wrongInputs changes inputs so that they may be wrong.
func (g generator) wrongInputs(in api.Inputs) api.Inputs {
	for _, list := range []*[]int{&in.Secret, &in.Public, &in.Random} {
		switch n := len(*list); {
		case g.Intn(20) == 0:
			*list = append(*list, 0)
		case n > 0 && g.Intn(20) == 0:
			*list = (*list)[:n-1]
		case n > 0 && g.Intn(12) == 0:
			(*list)[g.Intn(n)] = g.odd()
		}
	}
	return in
}

func TestP17_2Model(t *testing.T) {
	g := newGenerator(172)
	codes, outputs, settled := map[api.Code]int{}, 0, 0
	for i := range 20000 {
		f := clone(g.program(), i%2 == 0)
		in := clone(g.wrongInputs(g.inputs(f)), i%2 == 0)
		var want result
		code := checkModel(f)
		if code == api.OK {
			want = runModel(f, in)
			code = want.code
		}
		before, inBefore := clone(f, true), clone(in, true)
		got, gotCode := flat.Run(f, in)
		if !equalSeen(got, want.seen) || gotCode != code {
			t.Fatalf("Run = %v, %d, want %v, %d: %v, %+v", got, gotCode, want.seen, code, in, f)
		}
		final, gotCode := flat.Final(f, in)
		if !slices.Equal(final, want.final) || gotCode != code {
			t.Fatalf("Final = %v, %d, want %v, %d: %v, %+v", final, gotCode, want.final, code, in, f)
		}
		for k := range final {
			final[k] = 99
		}
		if !reflect.DeepEqual(before, clone(f, true)) || !reflect.DeepEqual(inBefore, clone(in, true)) {
			t.Fatalf("an argument is changed: %v, %+v", in, f)
		}
		codes[code]++
		outputs += len(got.Outputs)
		settled += truthOf(want.settled)
	}
	if codes[api.OK] < 10000 || codes[api.ErrArgument] < 500 || codes[api.ErrRange] < 500 || outputs < 5000 || settled < 2000 {
		t.Errorf("%v, %d outputs, %d settled", codes, outputs, settled)
	}
}

// TestP17_2Long has runs that execute as many steps as they may.
func TestP17_2Long(t *testing.T) {
	f := api.Flat{Vars: []api.Var{{Name: "x", High: 1<<20 - 3}}, Body: []api.Step{{Do: api.Loop, N: 2047, Cost: 10000, Term: lit(1), Then: []api.Step{{Do: api.Assign, Cost: 10000, Term: op(api.OpAdd, ref(0), lit(3))}}}, {Do: api.Output, Term: ref(0)}}}
	if got, code := flat.Run(f, api.Inputs{}); !equalSeen(got, api.Observation{Outputs: []int{6141}, Time: 40940000}) || code != api.OK {
		t.Errorf("Run = %v, %d", got, code)
	}
	if steps, outputs, time, code := flat.Bounds(f); steps != 4096 || outputs != 1 || time != 40940000 || code != api.OK {
		t.Errorf("Bounds = %d, %d, %d, %d", steps, outputs, time, code)
	}
}
