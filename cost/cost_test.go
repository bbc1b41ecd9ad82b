package cost_test

import (
	"slices"
	"testing"

	"keyhole/api"
	"keyhole/cost"
	"keyhole/parser"
)

func parse(t *testing.T, text string) api.Expr {
	t.Helper()
	e, at, code := parser.ParseExpr(text)
	if code != api.OK {
		t.Fatalf("ParseExpr(%q) = %d, %d", text, at, code)
	}
	return e
}

// expect compares a cost and a code with those that are wanted; together with an error the cost is 0.
func expect(t *testing.T, what string, got int, gotCode api.Code, want int, code api.Code) {
	t.Helper()
	if code != api.OK {
		want = 0
	}
	if got != want || gotCode != code {
		t.Fatalf("%s = %d, %d, want %d, %d", what, got, gotCode, want, code)
	}
}

func TestExamples(t *testing.T) {
	c := cost.Default()
	loaded := c
	loaded.Load = 2
	call := func(n int, code api.Code) func(want int) {
		return func(want int) {
			t.Helper()
			expect(t, "the example", n, code, want, api.OK)
		}
	}
	call(cost.Expr(c, parse(t, "a + b[i] * 2")))(5)
	call(cost.Expr(loaded, parse(t, "a + b[i] * 2")))(11)
	call(cost.Place(loaded, parse(t, "b[i]")))(3)
	call(cost.Set(c, parse(t, "x"), parse(t, "a / b"), 1))(9)
	call(cost.Set(c, parse(t, "p"), parse(t, "q"), 4))(4)
	call(cost.Enter(c, []api.Expr{parse(t, "a"), parse(t, "1 + 2")}, []int{3, 1}))(7)
	call(cost.If(c, parse(t, "a < b")))(2)
	call(cost.While(c, parse(t, "!c")))(2)
	call(cost.Output(c, parse(t, "a")))(1)
	call(cost.Release(c, parse(t, "x[1]")))(3)
	call(cost.Leave(c, parse(t, "x[1]"), parse(t, "a * b"), 5))(9)
	call(cost.Enter(c, nil, nil))(2)
}

// TestP15_3Operators asks for each operator which entry it costs.
func TestP15_3Operators(t *testing.T) {
	a := api.Expr{Op: api.OpName, Name: "a"}
	for op := api.OpLit; op <= api.OpCond; op++ {
		e := api.Expr{Op: op}
		switch {
		case op == api.OpName:
			e = a
		case op == api.OpField:
			e = api.Expr{Op: op, Name: "x", Kids: []api.Expr{a}}
		case op == api.OpNeg || op == api.OpNot:
			e.Kids = []api.Expr{{N: 1}}
		case op == api.OpIndex:
			e.Kids = []api.Expr{a, {N: 1}}
		case op == api.OpCond:
			e.Kids = make([]api.Expr, 3)
		case op > api.OpNot:
			e.Kids = make([]api.Expr, 2)
		}
		for _, name := range entryNames {
			var c api.Costs
			setEntry(&c, name, 7)
			want := 0
			if entryOf[op] == name {
				want = 7
			}
			if name == "load" && (op == api.OpField || op == api.OpIndex) {
				want = 7
			}
			got, code := cost.Expr(c, e)
			expect(t, "Expr", got, code, want, api.OK)
		}
	}
}

func TestP15_3Expressions(t *testing.T) {
	codes := map[api.Code]int{}
	for seed, slips := range []int{0, 30} {
		g := newGenerator(int64(1530+seed), slips)
		for range 10000 {
			c, e := g.costsOrWrong(), g.expr(5)
			if g.Intn(3) == 0 {
				e = g.place(5)
			}
			code := errorModel(c, []api.Expr{e}, nil, true, nil)
			got, gotCode := cost.Expr(c, e)
			expect(t, "Expr", got, gotCode, exprModel(c, e), code)
			code = errorModel(c, []api.Expr{e}, []api.Expr{e}, true, nil)
			got, gotCode = cost.Place(c, e)
			expect(t, "Place", got, gotCode, placeModel(c, e), code)
			codes[code]++
		}
	}
	for _, code := range []api.Code{api.OK, api.ErrArgument, api.ErrName, api.ErrRange, api.ErrLimit} {
		if codes[code] < 100 {
			t.Errorf("only %d places with the code %d", codes[code], code)
		}
	}
}

func TestP15_3Limits(t *testing.T) {
	c := api.Costs{Arith: 100, Load: 100}
	full := deep(12)
	got, code := cost.Expr(c, full)
	expect(t, "Expr of 12 levels", got, code, 1200, api.OK)
	got, code = cost.Expr(c, deep(13))
	expect(t, "Expr of 13 levels", got, code, 0, api.ErrLimit)
	wide := api.Expr{Op: api.OpName, Name: "a"}
	for range 9 {
		wide = api.Expr{Op: api.OpAdd, Kids: []api.Expr{wide, wide}}
	}
	got, code = cost.Expr(c, wide)
	expect(t, "Expr of 1023 nodes", got, code, 102300, api.OK)
	wide = api.Expr{Op: api.OpAdd, Kids: []api.Expr{wide, wide}}
	got, code = cost.Expr(c, wide)
	expect(t, "Expr of 2047 nodes", got, code, 0, api.ErrLimit)
	for range 60 {
		wide = api.Expr{Op: api.OpAdd, Kids: []api.Expr{wide, wide}}
	}
	got, code = cost.Expr(c, wide)
	expect(t, "Expr of shared nodes", got, code, 0, api.ErrLimit)
	got, code = cost.Expr(api.Costs{Loop: -1}, wide)
	expect(t, "Expr with a wrong model", got, code, 0, api.ErrRange)
}

// number returns a number of scalars, which may be wrong.
func (g generator) number() int {
	if g.slips > 0 && g.Intn(12) == 0 {
		return pick(g, -1, 33, 1<<62, -1<<63)
	}
	return pick(g, 0, 1, 2, 31, 32)
}

// placeOrWrong returns a place, or something else.
func (g generator) placeOrWrong() api.Expr {
	if g.slips > 0 && g.Intn(12) == 0 {
		return g.expr(3)
	}
	return g.place(4)
}

func TestP15_4Statements(t *testing.T) {
	codes := map[api.Code]int{}
	for seed, slips := range []int{0, 60} {
		g := newGenerator(int64(1540+seed), slips)
		for range 8000 {
			c, place, value, scalars := g.costsOrWrong(), g.placeOrWrong(), g.expr(4), g.number()
			whole := []api.Expr{place, value}
			code := errorModel(c, whole, whole[:1], true, []int{scalars})
			want := c.Assign*scalars + placeModel(c, place) + exprModel(c, value)
			got, gotCode := cost.Set(c, place, value, scalars)
			expect(t, "Set", got, gotCode, want, code)
			got, gotCode = cost.Leave(c, place, value, scalars)
			expect(t, "Leave", got, gotCode, want, code)
			codes[code]++
			got, gotCode = cost.Release(c, place)
			expect(t, "Release", got, gotCode, c.Release+c.Assign+placeModel(c, place), errorModel(c, whole[:1], whole[:1], true, nil))
			code = errorModel(c, whole[1:], nil, true, nil)
			got, gotCode = cost.Output(c, value)
			expect(t, "Output", got, gotCode, c.Output+exprModel(c, value), code)
			got, gotCode = cost.If(c, value)
			expect(t, "If", got, gotCode, c.Branch+exprModel(c, value), code)
			got, gotCode = cost.While(c, value)
			expect(t, "While", got, gotCode, c.Loop+exprModel(c, value), code)
		}
	}
	for _, code := range []api.Code{api.OK, api.ErrArgument, api.ErrName, api.ErrRange, api.ErrLimit} {
		if codes[code] < 20 {
			t.Errorf("only %d assignments with the code %d", codes[code], code)
		}
	}
}

func TestP15_4Enter(t *testing.T) {
	codes := map[api.Code]int{}
	for seed, slips := range []int{0, 60} {
		g := newGenerator(int64(1542+seed), slips)
		for range 8000 {
			c := g.costsOrWrong()
			var args []api.Expr
			var scalars []int
			want := c.Call
			for range g.Intn(5) {
				args, scalars = append(args, g.expr(3)), append(scalars, g.number())
				want += exprModel(c, args[len(args)-1]) + c.Assign*scalars[len(scalars)-1]
			}
			if slips > 0 && g.Intn(10) == 0 {
				scalars = append(scalars, g.number())
			} else if slips > 0 && len(scalars) > 0 && g.Intn(10) == 0 {
				scalars = scalars[1:]
			}
			code := errorModel(c, args, nil, len(args) == len(scalars), scalars)
			before := slices.Clone(scalars)
			got, gotCode := cost.Enter(c, args, scalars)
			expect(t, "Enter", got, gotCode, want, code)
			if !slices.Equal(scalars, before) {
				t.Fatalf("an argument is changed: %v", scalars)
			}
			codes[code]++
		}
	}
	for _, code := range []api.Code{api.OK, api.ErrArgument, api.ErrName, api.ErrRange, api.ErrLimit, api.ErrMismatch} {
		if codes[code] < 20 {
			t.Errorf("only %d calls with the code %d", codes[code], code)
		}
	}
}

// TestP15_4Order has arguments with several errors each.
func TestP15_4Order(t *testing.T) {
	good, bad := cost.Default(), api.Costs{Logic: 101}
	name, misnamed, malformed, literal := api.Expr{Op: api.OpName, Name: "a"}, api.Expr{Op: api.OpName, Name: "A"}, api.Expr{Op: 99}, api.Expr{N: 1}
	for i, c := range []struct {
		costs        api.Costs
		place, value api.Expr
		scalars      int
		code         api.Code
	}{
		{bad, malformed, malformed, -1, api.ErrRange}, {good, misnamed, malformed, -1, api.ErrName}, {good, malformed, misnamed, -1, api.ErrArgument}, {good, literal, misnamed, -1, api.ErrName},
		{good, literal, name, -1, api.ErrArgument}, {good, name, name, -1, api.ErrRange}, {good, name, name, 33, api.ErrRange}, {good, name, name, 32, api.OK}, {good, name, literal, 0, api.OK},
	} {
		if _, code := cost.Set(c.costs, c.place, c.value, c.scalars); code != c.code {
			t.Errorf("%d: Set = %d, want %d", i, code, c.code)
		}
		if _, code := cost.Leave(c.costs, c.place, c.value, c.scalars); code != c.code {
			t.Errorf("%d: Leave = %d, want %d", i, code, c.code)
		}
	}
	for i, c := range []struct {
		costs   api.Costs
		args    []api.Expr
		scalars []int
		code    api.Code
	}{
		{bad, []api.Expr{malformed}, []int{-1, 0}, api.ErrRange}, {good, []api.Expr{misnamed, malformed}, nil, api.ErrName}, {good, []api.Expr{malformed, misnamed}, nil, api.ErrArgument},
		{good, []api.Expr{name, misnamed}, []int{-1}, api.ErrName}, {good, []api.Expr{name}, []int{-1, 0}, api.ErrMismatch}, {good, []api.Expr{name}, nil, api.ErrMismatch}, {good, nil, []int{33}, api.ErrMismatch},
		{good, []api.Expr{name, name}, []int{0, 33}, api.ErrRange}, {good, []api.Expr{name, literal}, []int{0, 32}, api.OK}, {good, []api.Expr{}, []int{}, api.OK},
	} {
		if _, code := cost.Enter(c.costs, c.args, c.scalars); code != c.code {
			t.Errorf("%d: Enter = %d, want %d", i, code, c.code)
		}
	}
}

// all returns the costs of all functions for one choice of arguments.
func all(c api.Costs, place, value api.Expr, scalars int) []int {
	var list []int
	add := func(n int, _ api.Code) { list = append(list, n) }
	add(cost.Expr(c, value))
	add(cost.Place(c, place))
	add(cost.Set(c, place, value, scalars))
	add(cost.Enter(c, []api.Expr{value, place}, []int{scalars, 1}))
	add(cost.Leave(c, place, value, scalars))
	add(cost.Release(c, place))
	add(cost.Output(c, value))
	add(cost.If(c, value))
	add(cost.While(c, value))
	return list
}

func TestP15_5Additivity(t *testing.T) {
	g := newGenerator(155, 0)
	for range 3000 {
		place, value, scalars := g.place(4), g.expr(4), g.Intn(33)
		var a, b, sum api.Costs
		for _, name := range entryNames {
			total := g.Intn(101)
			part := g.Intn(total + 1)
			setEntry(&a, name, part)
			setEntry(&b, name, total-part)
			setEntry(&sum, name, total)
		}
		first, second, whole := all(a, place, value, scalars), all(b, place, value, scalars), all(sum, place, value, scalars)
		for i := range whole {
			if first[i]+second[i] != whole[i] {
				t.Fatalf("function %d: %d and %d give %d: %v, %v", i, first[i], second[i], whole[i], a, b)
			}
			// b is not negative, so that the entries of the sum are not less than those of a.
			if whole[i] < first[i] {
				t.Fatalf("function %d: a greater model lowers %d to %d", i, first[i], whole[i])
			}
		}
		// A node costs as much more than its parts as it costs if they cost nothing.
		parts := 0
		for _, kid := range value.Kids {
			n, _ := cost.Expr(sum, kid)
			parts += n
		}
		own := 0
		if name := entryOf[value.Op]; name != "" {
			own = entry(sum, name)
		}
		if whole[0] != parts+own {
			t.Fatalf("%d, the parts %d, the node %d", whole[0], parts, own)
		}
	}
}
