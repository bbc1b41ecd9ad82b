package flat_test

import (
	"slices"
	"testing"

	"keyhole/api"
	"keyhole/flat"
)

// scope has a variable of each kind, with bounds on both sides of 0, above it, below it, and 0 alone.
var scope = []api.Var{{Name: "a", Low: -3, High: 5}, {Name: "b", Kind: api.Secret, Low: 2, High: 4}, {Name: "c", Low: -6, High: -2, Init: -2}, {Name: "z", Kind: api.Public}}

func TestP17_3Rules(t *testing.T) {
	a, b, c, z := ref(0), ref(1), ref(2), ref(3)
	for i, e := range []struct {
		t         api.Term
		low, high int
	}{
		{lit(7), 7, 7}, {lit(-7), -7, -7}, {lit(1 << 20), 1 << 20, 1 << 20}, {lit(-1 << 20), -1 << 20, -1 << 20}, {a, -3, 5}, {b, 2, 4}, {z, 0, 0},
		{op(api.OpNeg, a), -5, 3}, {op(api.OpNeg, c), 2, 6}, {op(api.OpNot, a), 0, 1}, {op(api.OpNot, lit(3)), 0, 1},
		{op(api.OpAdd, a, b), -1, 9}, {op(api.OpSub, a, b), -7, 3}, {op(api.OpSub, a, a), -8, 8}, {op(api.OpMul, a, b), -12, 20}, {op(api.OpMul, a, c), -30, 18}, {op(api.OpMul, c, c), 4, 36}, {op(api.OpMul, a, a), -15, 25},
		{op(api.OpDiv, b, b), 0, 4}, {op(api.OpDiv, a, b), -5, 5}, {op(api.OpDiv, b, a), -4, 4}, {op(api.OpDiv, c, b), -6, 6}, {op(api.OpDiv, b, c), -4, 4}, {op(api.OpDiv, b, z), 0, 4}, {op(api.OpDiv, z, b), 0, 0}, {op(api.OpDiv, lit(100), lit(7)), 0, 100},
		{op(api.OpMod, a, b), 0, 3}, {op(api.OpMod, b, a), -2, 4}, {op(api.OpMod, b, c), -5, 0}, {op(api.OpMod, a, z), 0, 0}, {op(api.OpMod, a, lit(1)), 0, 0}, {op(api.OpMod, a, lit(-1)), 0, 0}, {op(api.OpMod, lit(2), lit(5)), 0, 4}, {op(api.OpMod, a, lit(-7)), -6, 0},
		{op(api.OpEq, a, b), 0, 1}, {op(api.OpNe, a, b), 0, 1}, {op(api.OpLt, a, b), 0, 1}, {op(api.OpLe, a, b), 0, 1}, {op(api.OpGt, a, b), 0, 1}, {op(api.OpGe, c, b), 0, 1}, {op(api.OpAnd, a, b), 0, 1}, {op(api.OpOr, b, b), 0, 1},
		{op(api.OpMin, a, b), -3, 4}, {op(api.OpMax, a, b), 2, 5}, {op(api.OpMin, c, a), -6, -2}, {op(api.OpMax, c, a), -3, 5},
		{op(api.OpCond, a, b, c), -6, 4}, {op(api.OpCond, lit(9), b, b), 2, 4}, {op(api.OpCond, lit(0), lit(1), lit(2)), 1, 2}, {op(api.OpSelect, lit(99), b), 2, 4}, {op(api.OpSelect, a, b, c, z), -6, 4}, {op(api.OpSelect, c, lit(1), lit(8), lit(-2)), -2, 8},
		{api.Term{Op: api.OpSelect, Kids: slices.Repeat([]api.Term{b}, 33)}, 2, 4}, {op(api.OpMul, lit(1<<10), lit(-1<<10)), -1 << 20, -1 << 20}, {op(api.OpAdd, lit(1<<20), lit(0)), 1 << 20, 1 << 20},
	} {
		if low, high, code := flat.Range(scope, e.t); low != e.low || high != e.high || code != api.OK {
			t.Errorf("%d: Range = %d, %d, %d, want %d, %d", i, low, high, code, e.low, e.high)
		}
	}
}

func TestP17_3Refuses(t *testing.T) {
	a := ref(0)
	wide := op(api.OpAdd, lit(1<<20), lit(1))
	for i, c := range []struct {
		t    api.Term
		code api.Code
	}{
		{lit(1<<20 + 1), api.ErrRange}, {lit(-1<<20 - 1), api.ErrRange}, {lit(1<<63 - 1), api.ErrRange}, {lit(-1 << 63), api.ErrRange}, {op(api.OpNeg, lit(-1<<63)), api.ErrRange}, {wide, api.ErrRange}, {op(api.OpSub, lit(-1<<20), lit(1)), api.ErrRange},
		{op(api.OpMul, lit(1<<11), lit(1<<10)), api.ErrRange}, {op(api.OpMul, lit(1<<20), lit(1<<20)), api.ErrRange}, {op(api.OpMul, op(api.OpMul, lit(1<<20), lit(1<<20)), lit(0)), api.ErrRange}, {op(api.OpNot, wide), api.ErrRange}, {op(api.OpCond, wide, a, a), api.ErrRange}, {op(api.OpSelect, wide, a), api.ErrRange}, {op(api.OpMin, wide, a), api.ErrRange},
		{op(api.OpCond, lit(1), a, wide), api.ErrRange}, {op(api.OpSelect, lit(0), a, a, a, wide), api.ErrRange}, {op(api.OpMod, wide, lit(2)), api.ErrRange},
		{ref(-1), api.ErrArgument}, {ref(4), api.ErrArgument}, {ref(1 << 62), api.ErrArgument}, {api.Term{Op: api.OpAdd}, api.ErrArgument}, {op(api.OpAdd, a), api.ErrArgument}, {op(api.OpAdd, a, a, a), api.ErrArgument}, {op(api.OpLit, a), api.ErrArgument}, {op(api.OpRef, a), api.ErrArgument},
		{op(api.OpNeg), api.ErrArgument}, {op(api.OpNeg, a, a), api.ErrArgument}, {op(api.OpNot, a, a), api.ErrArgument}, {op(api.OpCond, a, a), api.ErrArgument}, {op(api.OpCond, a, a, a, a), api.ErrArgument}, {op(api.OpSelect), api.ErrArgument}, {op(api.OpSelect, a), api.ErrArgument},
		{api.Term{Op: api.OpSelect, Kids: slices.Repeat([]api.Term{a}, 34)}, api.ErrArgument}, {api.Term{Op: api.OpTrue}, api.ErrArgument}, {api.Term{Op: api.OpFalse}, api.ErrArgument}, {api.Term{Op: api.OpName}, api.ErrArgument}, {op(api.OpField, a), api.ErrArgument}, {op(api.OpIndex, a, a), api.ErrArgument},
		{api.Term{Op: -1}, api.ErrArgument}, {api.Term{Op: api.OpSelect + 1}, api.ErrArgument}, {api.Term{Op: api.OpNeg, N: 1, Kids: []api.Term{a}}, api.ErrArgument}, {api.Term{Op: api.OpSelect, N: -1, Kids: []api.Term{a, a}}, api.ErrArgument},
		{op(api.OpMul, wide, ref(9)), api.ErrArgument}, {op(api.OpMul, wide, op(api.OpNeg, op(api.OpNot, ref(9)))), api.ErrArgument},
	} {
		if low, high, code := flat.Range(scope, c.t); low != 0 || high != 0 || code != c.code {
			t.Errorf("%d: Range = %d, %d, %d, want %d", i, low, high, code, c.code)
		}
		if value, code := flat.Eval(scope, []int{0, 2, -2, 0}, c.t); value != 0 || code != c.code {
			t.Errorf("%d: Eval = %d, %d, want %d", i, value, code, c.code)
		}
		for _, s := range []api.Step{{Do: api.Assign, Term: c.t}, {Do: api.Output, Term: c.t}, {Do: api.If, Term: c.t}, {Do: api.Loop, Term: c.t}} {
			if code := flat.Check(api.Flat{Vars: scope, Body: []api.Step{s}}); code != c.code {
				t.Errorf("%d: Check of a step %d = %d, want %d", i, s.Do, code, c.code)
			}
		}
	}
}

// TestP17_3Variables has errors of the variables, which come before those of the term in Range, and do not all matter in Eval.
func TestP17_3Variables(t *testing.T) {
	bad, wide := ref(7), lit(1<<21)
	for i, c := range []struct {
		vars        []api.Var
		values      []int
		t           api.Term
		found, eval api.Code
	}{
		{[]api.Var{{Name: "A", High: 3}}, []int{3}, ref(0), api.ErrName, api.OK}, {[]api.Var{{Name: "a", High: 3}, {Name: "a"}}, []int{3, 0}, ref(0), api.ErrDuplicate, api.OK}, {[]api.Var{{Name: "a", Kind: 9, High: 3}}, []int{3}, ref(0), api.ErrArgument, api.OK},
		{[]api.Var{{Name: "a", High: 3, Init: 4}}, []int{3}, ref(0), api.ErrRange, api.OK}, {[]api.Var{{Name: "a", Kind: api.Secret, High: 3, Init: 1}}, []int{3}, ref(0), api.ErrRange, api.OK}, {[]api.Var{{Name: "a", Kind: api.Secret, High: 4096}}, []int{3}, ref(0), api.ErrLimit, api.OK},
		{[]api.Var{{Name: "a", Kind: api.Random, High: 256}}, []int{256}, ref(0), api.ErrLimit, api.OK}, {[]api.Var{{Name: "a", Kind: api.Public, High: 4096}}, []int{256}, ref(0), api.ErrLimit, api.OK}, {[]api.Var{{Name: "a", Kind: api.Public, High: 4095}}, []int{256}, ref(0), api.OK, api.OK},
		{[]api.Var{{Name: "a", Low: 1}}, []int{0}, lit(1), api.ErrRange, api.ErrRange}, {[]api.Var{{Name: "a", Low: -1<<20 - 1}}, []int{0}, lit(1), api.ErrRange, api.ErrRange}, {[]api.Var{{Name: "a", High: 1<<20 + 1}}, []int{0}, lit(1), api.ErrRange, api.ErrRange},
		{[]api.Var{{Name: "a", Low: -1 << 63, High: 1<<63 - 1}}, []int{0}, ref(0), api.ErrRange, api.ErrRange}, {[]api.Var{{Name: "a", High: 3}}, []int{4}, lit(1), api.OK, api.ErrRange}, {[]api.Var{{Name: "a", High: 3}}, []int{-1}, lit(1), api.OK, api.ErrRange},
		{[]api.Var{{Name: "a", High: 3}}, nil, lit(1), api.OK, api.ErrArgument}, {[]api.Var{{Name: "a", High: 3}}, []int{1, 1}, lit(1), api.OK, api.ErrArgument}, {nil, []int{1}, lit(1), api.OK, api.ErrArgument},
		// Several errors.
		{[]api.Var{{Name: "A", Low: 1}}, nil, bad, api.ErrName, api.ErrArgument}, {[]api.Var{{Name: "a", Low: 1}}, []int{0}, bad, api.ErrRange, api.ErrArgument}, {[]api.Var{{Name: "a", Kind: api.Secret, High: 1 << 20}}, []int{7}, bad, api.ErrLimit, api.ErrArgument}, {[]api.Var{{Name: "a"}}, []int{7}, bad, api.ErrArgument, api.ErrArgument},
		{[]api.Var{{Name: "a"}}, []int{7}, wide, api.ErrRange, api.ErrRange}, {make([]api.Var, 100), make([]int, 100), ref(99), api.ErrName, api.OK},
	} {
		if _, _, code := flat.Range(c.vars, c.t); code != c.found {
			t.Errorf("%d: Range = %d, want %d", i, code, c.found)
		}
		if value, code := flat.Eval(c.vars, c.values, c.t); code != c.eval || code != api.OK && value != 0 {
			t.Errorf("%d: Eval = %d, %d, want %d", i, value, code, c.eval)
		}
	}
	// Neither has a limit for the number of variables, or for the depth of a term.
	many := slices.Repeat([]api.Var{{Name: "a", High: 1}}, 70)
	for i := range many {
		many[i].Name += string(rune('a'+i/26)) + string(rune('a'+i%26))
	}
	if low, high, code := flat.Range(many, op(api.OpNeg, op(api.OpMax, deep(20), ref(69)))); low != -1 || high != 0 || code != api.OK {
		t.Errorf("Range = %d, %d, %d", low, high, code)
	}
}

// TestP17_3Values evaluates each operator for all small values.
func TestP17_3Values(t *testing.T) {
	vars := []api.Var{{Name: "a", Low: -4, High: 4}, {Name: "b", Low: -4, High: 4}, {Name: "c", Low: -4, High: 4}}
	for _, o := range operators {
		for kids := o.kids; kids <= 3 && (kids == o.kids || o.op == api.OpSelect); kids++ {
			term := op(o.op, ref(0), ref(1), ref(2))
			term.Kids = term.Kids[:kids]
			low, high, code := flat.Range(vars, term)
			if code != api.OK {
				t.Fatalf("Range of the operator %d = %d", o.op, code)
			}
			for i := range 9 * 9 * 9 {
				values := []int{i/81 - 4, i/9%9 - 4, i%9 - 4}
				want := valueModel(values, term)
				got, code := flat.Eval(vars, values, term)
				if got != want || code != api.OK {
					t.Fatalf("Eval of the operator %d for %v = %d, %d, want %d", o.op, values, got, code, want)
				}
				if got < low || got > high {
					t.Fatalf("Eval of the operator %d for %v = %d, not from %d to %d", o.op, values, got, low, high)
				}
			}
		}
	}
	for i, c := range []struct {
		t    api.Term
		want int
	}{
		{op(api.OpDiv, lit(-7), lit(2)), -4}, {op(api.OpMod, lit(-7), lit(2)), 1}, {op(api.OpDiv, lit(7), lit(-2)), -4}, {op(api.OpMod, lit(7), lit(-2)), -1}, {op(api.OpDiv, lit(-7), lit(-2)), 3}, {op(api.OpMod, lit(-7), lit(-2)), -1}, {op(api.OpDiv, lit(7), lit(0)), 0}, {op(api.OpMod, lit(7), lit(0)), 0},
		{op(api.OpAnd, lit(2), lit(4)), 1}, {op(api.OpAnd, lit(2), lit(0)), 0}, {op(api.OpOr, lit(0), lit(-3)), 1}, {op(api.OpNot, lit(5)), 0}, {op(api.OpCond, lit(-1), lit(8), lit(9)), 8}, {op(api.OpCond, lit(0), lit(8), lit(9)), 9},
		{op(api.OpSelect, lit(-5), lit(8), lit(9)), 8}, {op(api.OpSelect, lit(1), lit(8), lit(9)), 9}, {op(api.OpSelect, lit(99), lit(8), lit(9)), 9}, {op(api.OpSelect, lit(1<<20), lit(6)), 6}, {op(api.OpDiv, lit(-1<<20), lit(-1)), 1 << 20}, {op(api.OpDiv, lit(-1<<20), lit(1<<20)), -1},
	} {
		if got, code := flat.Eval(nil, nil, c.t); got != c.want || code != api.OK {
			t.Errorf("%d: Eval = %d, %d, want %d", i, got, code, c.want)
		}
	}
}

func TestP17_3Model(t *testing.T) {
	g := newGenerator(173)
	codes, inside := map[api.Code]int{}, 0
	for range 30000 {
		vars := g.vars(4)
		term := g.term(indices(vars, isAny), 5)
		f := api.Flat{Vars: vars, Body: []api.Step{{Do: api.Output, Term: term}}}
		f = clone(f, g.small())
		if g.small() {
			list := terms(&f)
			g.disturbTerm(list[g.Intn(len(list))])
		}
		if g.small() {
			g.disturbVars(&f)
		}
		vars, term = f.Vars, f.Body[0].Term
		want := varsModel(vars)
		if want == api.OK {
			want = termModel(vars, term, setOf(vars, isAny))
		}
		wantLow, wantHigh := 0, 0
		if want == api.OK {
			low, high, _ := rangeModel(vars, term)
			wantLow, wantHigh = int(low.Int64()), int(high.Int64())
		}
		low, high, code := flat.Range(vars, term)
		if low != wantLow || high != wantHigh || code != want {
			t.Fatalf("Range = %d, %d, %d, want %d, %d, %d: %+v", low, high, code, wantLow, wantHigh, want, f)
		}
		codes[code]++
		if code != api.OK {
			continue
		}
		for range 4 {
			values := g.values(vars)
			want := valueModel(values, term)
			got, code := flat.Eval(vars, values, term)
			if got != want || code != api.OK || got < low || got > high {
				t.Fatalf("Eval = %d, %d, want %d, from %d to %d: %v, %+v", got, code, want, low, high, values, f)
			}
			inside += truthOf(got > low && got < high)
		}
	}
	if codes[api.OK] < 10000 || codes[api.ErrArgument] < 500 || codes[api.ErrRange] < 500 || inside < 10000 {
		t.Errorf("%v, %d values inside", codes, inside)
	}
}
