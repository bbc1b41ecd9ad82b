package flat_test

import (
	"testing"

	"keyhole/api"
	"keyhole/flat"
)

func TestP17_4Examples(t *testing.T) {
	for i, c := range []struct {
		f                    api.Flat
		steps, outputs, time int
		code                 api.Code
	}{
		{api.Flat{}, 0, 0, 0, api.OK}, {first(), 4, 1, 8, api.OK}, {whole(), 1 + 3 + 7 + 1, 1, 1 + 2 + 9 + 39 + 8, api.OK}, {api.Flat{Vars: []api.Var{{}}}, 0, 0, 0, api.ErrName},
		{api.Flat{Body: []api.Step{{Do: api.Loop, Cost: 7, Then: tower(9, 4096)}}}, 1, 0, 0, api.OK}, {api.Flat{Body: []api.Step{{Do: api.Loop, Cost: 7, N: 1, Term: lit(0), Then: tower(9, 4096)}}}, 0, 0, 0, api.ErrLimit},
		{api.Flat{Body: []api.Step{{Do: api.If, Cost: 7, Then: []api.Step{{Do: api.Output, Cost: 1}, {Do: api.Output}}, Else: []api.Step{{Do: api.Wait, Cost: 50}, {Do: api.Wait}, {Do: api.Output}}}}}, 4, 2, 57, api.OK},
	} {
		steps, outputs, time, code := flat.Bounds(c.f)
		if steps != c.steps || outputs != c.outputs || time != c.time || code != c.code {
			t.Errorf("%d: Bounds = %d, %d, %d, %d, want %d, %d, %d, %d", i, steps, outputs, time, code, c.steps, c.outputs, c.time, c.code)
		}
	}
}

func TestP17_4Span(t *testing.T) {
	const most = 1<<26 + 1
	wait := func(cost int) []api.Step { return []api.Step{{Do: api.Wait, Cost: cost}} }
	for i, c := range []struct {
		steps     []api.Step
		low, high int
	}{
		{nil, 0, 0}, {[]api.Step{}, 0, 0}, {first().Body, 8, 8}, {whole().Body, 1 + 2 + 3 + 6 + 8, 59},
		{[]api.Step{{Do: api.If, Cost: 2, Then: wait(5), Else: wait(3)}}, 5, 7}, {[]api.Step{{Do: api.If, Cost: 2, Then: wait(3), Else: wait(5)}}, 5, 7}, {[]api.Step{{Do: api.If, Cost: 2, Then: wait(5)}}, 2, 7}, {[]api.Step{{Do: api.If, Cost: 2, Else: wait(5)}}, 2, 7}, {[]api.Step{{Do: api.If, Cost: 2, Term: lit(1), Then: wait(5), Else: wait(5)}}, 7, 7},
		{[]api.Step{{Do: api.Loop, Cost: 2, N: 3, Term: lit(1), Then: wait(5)}}, 21, 21}, {[]api.Step{{Do: api.Loop, Cost: 2, N: 3, Term: lit(-9), Then: wait(5)}}, 21, 21}, {[]api.Step{{Do: api.Loop, Cost: 2, N: 3, Then: wait(5)}}, 2, 2}, {[]api.Step{{Do: api.Loop, Cost: 2, N: 3, Term: ref(0), Then: wait(5)}}, 2, 21},
		{[]api.Step{{Do: api.Loop, Cost: 2, Term: lit(1), Then: wait(5)}}, 0, 0}, {[]api.Step{{Do: api.Loop, Cost: 2, Then: wait(5)}}, 0, 0}, {[]api.Step{{Do: api.Loop, Cost: 2, Term: ref(0), Then: wait(5)}}, 0, 0}, {[]api.Step{{Do: api.Loop, Cost: 2, N: -3, Term: ref(0), Then: wait(5)}}, 0, 0}, {[]api.Step{{Do: api.Loop, Cost: 2, N: 1, Term: op(api.OpNeg, lit(0)), Then: wait(5)}}, 2, 7},
		{[]api.Step{{Do: api.Loop, Cost: 2, N: 3, Term: lit(1), Then: []api.Step{{Do: api.If, Cost: 1, Then: wait(4)}}}}, 9, 21}, {[]api.Step{{Do: api.Loop, Cost: 1, N: 1 << 62, Term: lit(1)}}, 4096, 4096},
		// Costs are clamped, sums are cut down.
		{wait(-5), 0, 0}, {wait(-1 << 63), 0, 0}, {wait(most), most, most}, {wait(most + 1), most, most}, {wait(1<<63 - 1), most, most}, {append(wait(1<<26), wait(1)...), most, most}, {append(wait(1<<26), wait(1<<26)...), most, most}, {append(wait(1<<26), wait(-1)...), 1 << 26, 1 << 26},
		{[]api.Step{{Do: api.Assign, Cost: 1 << 62}}, most, most}, {[]api.Step{{Do: api.Loop, Cost: 1 << 62, N: 1 << 62, Term: lit(1), Then: wait(1 << 62)}}, most, most}, {[]api.Step{{Do: api.Loop, Cost: 1, N: 1 << 62, Term: ref(0), Then: wait(1 << 62)}}, 1, most},
		{tower(40, 4096), most, most}, {[]api.Step{{Do: api.If, Cost: 1 << 62, Then: wait(1 << 62)}}, most, most}, {append([]api.Step{{Do: api.If, Cost: 1, Then: wait(1 << 62)}}, wait(3)...), 4, most},
		{[]api.Step{{Do: api.Loop, Cost: 1 << 62, N: -1, Term: lit(1), Then: wait(1 << 62)}}, 0, 0},
		// Steps that are not steps of any program cost as much as they say.
		{[]api.Step{{Do: 9, Cost: 4, Then: wait(5), Else: wait(5)}, {Do: -1, Cost: 1}}, 5, 5}, {[]api.Step{{Do: api.Wait, Cost: 4, N: 7, Then: wait(5)}, {Do: api.Loop, Cost: 4, N: 2, Term: lit(1), Else: wait(5)}}, 12, 12}, {[]api.Step{{Do: api.Settle, Cost: 4, Bounds: []int{90}}, {Do: api.Output, Cost: 1, Term: ref(-7)}, {Do: api.Release, Cost: 2, N: -1}}, 7, 7},
	} {
		if low, high := flat.Span(c.steps); low != c.low || high != c.high {
			t.Errorf("%d: Span = %d, %d, want %d, %d", i, low, high, c.low, c.high)
		}
		if low, high := spanModel(c.steps); int(low.Int64()) != c.low || int(high.Int64()) != c.high {
			t.Errorf("%d: the model says %v, %v, want %d, %d", i, low, high, c.low, c.high)
		}
	}
}

func TestP17_4Model(t *testing.T) {
	g := newGenerator(174)
	accepted, wide := 0, 0
	for i := range 20000 {
		f := clone(g.program(), i%2 == 0)
		for range g.Intn(4) {
			g.disturb(&f)
		}
		want := [3]int{}
		code := checkModel(f)
		if code == api.OK {
			for i, bound := range boundsModel(f.Body) {
				want[i] = int(bound.Int64())
			}
			accepted++
		}
		steps, outputs, time, gotCode := flat.Bounds(f)
		if got := [3]int{steps, outputs, time}; got != want || gotCode != code {
			t.Fatalf("Bounds = %v, %d, want %v, %d: %+v", got, gotCode, want, code, f)
		}
		low, high := spanModel(f.Body)
		gotLow, gotHigh := flat.Span(f.Body)
		if gotLow != int(low.Int64()) || gotHigh != int(high.Int64()) {
			t.Fatalf("Span = %d, %d, want %v, %v: %+v", gotLow, gotHigh, low, high, f.Body)
		}
		wide += truthOf(gotLow < gotHigh)
	}
	if accepted < 6000 || wide < 5000 {
		t.Errorf("only %d valid programs, and %d without constant time", accepted, wide)
	}
}

// TestP17_4Runs compares runs with their upper bounds, and with the span of their time.
func TestP17_4Runs(t *testing.T) {
	g := newGenerator(1744)
	runs, exact, within, constant := 0, 0, 0, 0
	for range 10000 {
		f := g.program()
		steps, outputs, time, code := flat.Bounds(f)
		if code != api.OK {
			continue
		}
		low, high := flat.Span(f.Body)
		if low > high || high > time {
			t.Fatalf("Span = %d, %d, the upper bound is %d: %+v", low, high, time, f)
		}
		for range 3 {
			in := g.inputs(f)
			seen, _ := flat.Run(f, in)
			r := runModel(f, in)
			if r.executed > steps || len(seen.Outputs) > outputs || r.unheld > time {
				t.Fatalf("%d steps, %v and the time %d, the upper bounds are %d, %d and %d: %v, %+v", r.executed, seen, r.unheld, steps, outputs, time, in, f)
			}
			runs++
			exact += truthOf(r.executed == steps && len(seen.Outputs) == outputs && r.unheld == time)
			if r.settled {
				continue
			}
			if seen.Time < low || seen.Time > high {
				t.Fatalf("the time is %d, not from %d to %d: %v, %+v", seen.Time, low, high, in, f)
			}
			within += truthOf(low < seen.Time && seen.Time < high)
			constant += truthOf(low == high)
		}
	}
	if runs < 15000 || exact < 3000 || within < 500 || constant < 3000 {
		t.Errorf("%d runs, %d at the bounds, %d within, %d with constant time", runs, exact, within, constant)
	}
}
