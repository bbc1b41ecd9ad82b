package interp_test

import (
	"reflect"
	"slices"
	"testing"

	"keyhole/api"
	"keyhole/cost"
	"keyhole/interp"
	"keyhole/parser"
	"keyhole/typecheck"
	"keyhole/types"
)

func parse(t *testing.T, text string) api.Program {
	t.Helper()
	p, at, code := parser.Parse(text)
	if code != api.OK {
		t.Fatalf("Parse = %d, %d: %s", at, code, text)
	}
	if at, code := typecheck.Check(p); code != api.OK {
		t.Fatalf("Check = %d, %d: %s", at, code, text)
	}
	return p
}

// equalSeen reports whether two observations are equal.
func equalSeen(a, b api.Observation) bool {
	return slices.Equal(a.Outputs, b.Outputs) && a.Time == b.Time
}

// example is a program with values of its inputs, and what is wanted: the outputs, the time and the final values.
type example struct {
	text           string
	secret, public []int
	outputs        []int
	time           int
	final          []int
}

func (e example) expect(t *testing.T, c api.Costs) {
	t.Helper()
	p, in := parse(t, e.text), api.Inputs{Secret: e.secret, Public: e.public}
	want := api.Observation{Outputs: e.outputs, Time: e.time}
	if got, code := interp.Run(p, c, in); !equalSeen(got, want) || code != api.OK {
		t.Errorf("Run = %v, %d, want %v: %s", got, code, want, e.text)
	}
	if got, code := interp.Final(p, c, in); !slices.Equal(got, e.final) || code != api.OK {
		t.Errorf("Final = %v, %d, want %v: %s", got, code, e.final, e.text)
	}
}

func TestP16_1Examples(t *testing.T) {
	const text = "secret pin: int[0..9]; var x: int[0..3]; begin x = pin * 2 + 1; if x == 3 { output pin; } else { wait 5; } end"
	for _, e := range []example{
		{text, []int{4}, nil, []int{4}, 8, []int{4, 3}},
		{text, []int{0}, nil, nil, 12, []int{0, 1}},
		{"begin end", nil, nil, nil, 0, nil},
	} {
		e.expect(t, cost.Default())
	}
}

// prices is a cost model from whose sums one sees what was added.
var prices = api.Costs{Assign: 1, Branch: 2, Loop: 3, Call: 5, Output: 7, Release: 11, Load: 13, Index: 17, Arith: 19, Multiply: 23, Divide: 29, Compare: 31, Logic: 37}

func TestP16_1Statements(t *testing.T) {
	for _, e := range []example{
		// An index is clamped where a place is read and where it is assigned.
		{"secret s: int[-9..9]; var a: array 2 of int[0..9] = 4; begin a[s] = 7; output a[0]; output a[s]; end", []int{-9}, nil, []int{7, 7}, (1 + 17 + 13) + (7 + 17 + 13) + (7 + 17 + 26), []int{-9, 7, 4}},
		{"secret s: int[-9..9]; var a: array 2 of int[0..9] = 4; begin a[s] = 7; output a[0]; output a[s]; end", []int{9}, nil, []int{4, 7}, 31 + 37 + 50, []int{9, 4, 7}},
		// The number of scalars of an assignment is that of the place.
		{"secret s: array 2 of record {u: bool, v: int[0..3]}; var a: array 2 of record {u: bool, v: int[0..3]}; begin a = s; end", []int{1, 2, 0, 3}, nil, nil, 4 + 13, []int{1, 2, 0, 3, 1, 2, 0, 3}},
		{"secret s: array 2 of record {u: bool, v: int[0..3]}; var a: record {u: bool, v: int[0..3]}; begin a = s[5]; a.v = a.v - 5; end", []int{1, 2, 0, 3}, nil, nil, (2 + 13 + 17) + (1 + 13 + 19), []int{1, 2, 0, 3, 0, 0}},
		// A component is assigned from another component of the same variable.
		{"var a: array 3 of array 2 of int[0..9] = 1; begin a[0][1] = 5; a[2] = a[0]; a[1] = a[2]; a[0] = a[0]; end", nil, nil, nil, 1 + 34 + 2*3 + 3*(34+13), []int{1, 5, 1, 5, 1, 5}},
		// The value of a function is clamped to its result before it is clamped to the place.
		{"func f(x: int[0..9]): int[0..4] { return x * 3; } var y: int[-5..100]; begin y = call f(50); end", nil, nil, nil, (5 + 1) + (13 + 23) + 1, []int{4}},
		{"func f(x: int[0..9]): int[-99..99] { return x * 3; } var y: int[-5..100]; begin y = call f(50); end", nil, nil, nil, 43, []int{27}},
		{"func f(x: int[2..9]): int[-99..99] { return x * 3; } var y: int[-5..5]; begin y = call f(0 - 50); end", nil, nil, nil, 43 + 19, []int{5}},
		// The variables of a function start anew at each call, clamped and turned into truth values.
		{"type r = record {u: bool, v: int[0..9]}; func f(x: int[0..9]): int[0..99] { var w: r = -3; w.v = w.v + x; return w.u ? w.v : 50; } var y: int[0..99]; begin y = call f(4); y = call f(y); end", nil, nil, nil, 2*((5+1)+(1+19+26)+(37+26)+1) + 13, []int{4}},
		// Arguments are aggregates, too, and are not changed by the function.
		{"func f(x: array 2 of int[0..9], n: int[0..9]): array 2 of int[0..9] { x[n] = x[n] + 1; return x; } var a: array 2 of int[0..9] = 3; var b: array 2 of int[0..9]; begin b = call f(a, 1); end", nil, nil, nil, (5 + 13 + 2 + 1) + (1 + 17 + 13 + 19 + 17 + 26) + (13 + 2), []int{3, 3, 3, 4}},
		// A function calls another one.
		{"func f(x: int[0..9]): int[0..9] { return x + 1; } func g(x: int[0..9]): int[0..9] { x = call f(x); x = call f(x); return x; } var y: int[0..9]; begin y = call g(3); end", nil, nil, nil, 6 + 2*((5+13+1)+(32+1)) + 14, []int{5}},
		// A while ends without a cost after its limit.
		{"var x: int[0..9] = 9; begin while x > 0 limit 3 { x = x - 1; } output x; end", nil, nil, []int{6}, 3*((3+31+13)+(1+32)) + 20, []int{6}},
		{"var x: int[0..9] = 2; begin while x > 0 limit 3 { x = x - 1; } output x; end", nil, nil, []int{0}, 3*47 + 2*33 + 20, []int{0}},
		{"var x: int[0..9] = 3; begin while x > 0 limit 3 { x = x - 1; } output x; end", nil, nil, []int{0}, 3*47 + 3*33 + 20, []int{0}},
		{"var x: int[0..9]; begin while x > 0 limit 3 { x = x - 1; } while true limit 0 { x = 5; } end", nil, nil, nil, 47, []int{0}},
		// A for counts up, from numbers below zero on, too.
		{"var x: int[-99..99]; begin for i = -2 to 1 { x = x * 3 + i; } end", nil, nil, nil, 4 * (3 + 1 + 23 + 19 + 26), []int{-62}},
		{"var x: int[0..99]; begin for i = 1 to 2 { for k = 3 to 4 { x = x + i * k; } } for i = 5 to 5 { x = x + i; } end", nil, nil, nil, 2*(3+2*(3+1+19+23+39)) + 3 + 1 + 19 + 26, []int{26}},
		// Both operands are evaluated; nothing costs more because of values.
		{"secret s: bool; var x: int[0..9]; begin if s && x / 0 == 0 { x = s ? 1 : 2; } output s; end", []int{1}, nil, []int{1}, (2 + 37 + 31 + 29 + 26) + (1 + 37 + 13) + 20, []int{1, 1}},
		{"secret s: bool; var x: int[0..9]; begin if s && x / 0 == 0 { x = s ? 1 : 2; } output s; end", []int{0}, nil, []int{0}, 125 + 20, []int{0, 0}},
		// An output is not clamped.
		{"secret s: int[-9..9]; begin output s * 100; output s > 0; output s == 0 - 9; end", []int{-9}, nil, []int{-900, 0, 1}, (7 + 36) + (7 + 44) + (7 + 31 + 19 + 13), []int{-9}},
		// Time settles at the end; above the last bound it stays.
		{"public n: int[0..9]; begin for i = 1 to 3 { wait 4; } if n > 5 { wait 100; } settle 5, 67, 68, 100; end", nil, []int{0}, nil, 67, []int{0}},
		{"public n: int[0..9]; begin for i = 1 to 3 { wait 4; } if n > 5 { wait 100; } settle 5, 67, 68, 100; end", nil, []int{9}, nil, 167, []int{9}},
		{"public n: int[0..9]; begin for i = 1 to 3 { wait 4; } if n > 5 { wait 100; } settle 5, 66; end", nil, []int{5}, nil, 67, []int{5}},
	} {
		e.expect(t, prices)
	}
}

func TestP16_1Arithmetic(t *testing.T) {
	for _, c := range []struct {
		text string
		want int
	}{
		{"s / 2", -4}, {"s % 2", 1}, {"s / (0 - 2)", 3}, {"s % (0 - 2)", -1}, {"s / 0", 0}, {"s % 0", 0}, {"7 / 2", 3}, {"7 % 2", 1}, {"7 / (0 - 2)", -4}, {"7 % (0 - 2)", -1}, {"(s - 1) / 2", -4}, {"(s - 1) % (0 - 4)", 0},
		{"s / 7", -1}, {"s % 7", 0}, {"s / 8", -1}, {"s % 8", 1}, {"0 / s", 0}, {"0 % s", 0}, {"-s", 7}, {"s * s - s", 56}, {"min(s, 3)", -7}, {"max(s, 3)", 3}, {"s < 0 ? 5 : 6", 5}, {"s > 0 ? 5 : 6", 6},
		{"s < -7", 0}, {"s <= -7", 1}, {"s > -7", 0}, {"s >= -7", 1}, {"s == -7", 1}, {"s != -7", 0}, {"true == false", 0}, {"true != false", 1}, {"!true", 0}, {"!false", 1},
		{"true && false", 0}, {"true && true", 1}, {"false || false", 0}, {"false || true", 1}, {"true || true", 1}, {"true ? false : true", 0}, {"false ? false : true", 1},
	} {
		p := parse(t, "secret s: int[-9..9]; begin output "+c.text+"; end")
		if got, code := interp.Run(p, api.Costs{}, api.Inputs{Secret: []int{-7}}); !equalSeen(got, api.Observation{Outputs: []int{c.want}}) || code != api.OK {
			t.Errorf("%s = %v, %d, want %d", c.text, got, code, c.want)
		}
	}
	p := parse(t, "secret a: int[-9..9]; secret b: int[-9..9]; begin output a / b; output a % b; end")
	for i := range 19 * 19 {
		a, b := i/19-9, i%19-9
		want := []int{floor(a, b), 0}
		if b != 0 {
			want[1] = a - b*want[0]
		}
		if got, code := interp.Run(p, api.Costs{}, api.Inputs{Secret: []int{a, b}}); !slices.Equal(got.Outputs, want) || code != api.OK {
			t.Errorf("%d by %d: %v, %d, want %v", a, b, got.Outputs, code, want)
		}
	}
}

func TestP16_1Model(t *testing.T) {
	g := newGenerator(161)
	accepted, outputs, calls, settled := 0, 0, 0, 0
	for range 6000 {
		p := g.program()
		c := g.costs()
		_, code := typecheck.Check(p)
		for range 3 {
			in := g.inputs(p)
			got, gotCode := interp.Run(p, c, in)
			if code != api.OK {
				if gotCode != code || !equalSeen(got, api.Observation{}) {
					t.Fatalf("Run = %v, %d, want %d: %+v", got, gotCode, code, p)
				}
				continue
			}
			want, m := modelRun(p, c, in)
			if !equalSeen(got, want.seen) || gotCode != want.code {
				t.Fatalf("Run = %v, %d, want %v, %d: %+v, %v, %+v", got, gotCode, want.seen, want.code, c, in, p)
			}
			accepted++
			outputs += min(len(got.Outputs), 1)
			calls += min(m.calls, 1)
			if m.settled {
				settled++
			}
		}
	}
	if accepted < 8000 || outputs < 1500 || calls < 500 || settled < 1000 {
		t.Errorf("only %d runs, %d with outputs, %d with calls, %d settled", accepted, outputs, calls, settled)
	}
}

// wrongInputs changes inputs so that they may be wrong.
func (g generator) wrongInputs(in api.Inputs) api.Inputs {
	for _, list := range []*[]int{&in.Secret, &in.Public, &in.Random} {
		*list = slices.Clone(*list)
		switch n := len(*list); {
		case g.Intn(12) == 0:
			*list = append(*list, g.Intn(2))
		case n > 0 && g.Intn(12) == 0:
			*list = (*list)[:n-1]
		case n > 0 && g.Intn(3) == 0:
			(*list)[g.Intn(n)] += pick(g, -9, -1, 1, 9, 1<<62, -1<<62)
		}
	}
	return in
}

func TestP16_1Errors(t *testing.T) {
	g := newGenerator(1612)
	codes := map[api.Code]int{}
	for range 12000 {
		p := g.program()
		in := g.wrongInputs(g.inputs(p))
		c := g.costs()
		if g.Intn(20) == 0 {
			c.Divide = pick(g, -1, 101)
		}
		if g.Intn(20) == 0 {
			p.Decls[g.Intn(len(p.Decls))].Name = pick(g, "d0", "d1", "None", "none")
		}
		_, code := typecheck.Check(p)
		hatchCode := code
		var want result
		if code == api.OK {
			want, _ = modelRun(p, c, in)
			code, hatchCode = want.code, want.code
			if checked := cost.Check(c); checked != api.OK {
				code = checked
			}
		}
		if code != api.OK {
			want.seen, want.final = api.Observation{}, nil
		}
		if got, gotCode := interp.Run(p, c, in); !equalSeen(got, want.seen) || gotCode != code {
			t.Fatalf("Run = %v, %d, want %v, %d: %+v, %v, %+v", got, gotCode, want.seen, code, c, in, p)
		}
		if got, gotCode := interp.Final(p, c, in); !slices.Equal(got, want.final) || gotCode != code {
			t.Fatalf("Final = %v, %d, want %v, %d: %+v, %v, %+v", got, gotCode, want.final, code, c, in, p)
		}
		if got, gotCode := interp.Hatches(p, in); !slices.Equal(got, want.hatches) || gotCode != hatchCode {
			t.Fatalf("Hatches = %v, %d, want %v, %d: %v, %+v", got, gotCode, want.hatches, hatchCode, in, p)
		}
		codes[code]++
	}
	for _, code := range []api.Code{api.OK, api.ErrArgument, api.ErrRange, api.ErrDuplicate, api.ErrName} {
		if codes[code] < 200 {
			t.Errorf("only %d runs with the code %d", codes[code], code)
		}
	}
}

// TestP16_1Order has arguments with several errors each.
func TestP16_1Order(t *testing.T) {
	good := parse(t, "secret a: bool; public b: int[2..3]; random c: array 2 of int[-1..1]; hatch h: bool = a; begin output a; end")
	bad := parse(t, "begin end")
	bad.Body = []api.Stmt{{Verb: api.OutputStmt, Value: api.Expr{Op: api.OpName, Name: "x"}}}
	slow := parse(t, "secret a: bool; public b: int[2..3]; random c: array 2 of int[-1..1]; hatch h: bool = a; begin for i = 1 to 65 { wait 1048576; } end")
	inputs := func(a, b, c []int) api.Inputs { return api.Inputs{Secret: a, Public: b, Random: c} }
	right := inputs([]int{1}, []int{2}, []int{-1, 1})
	negative := api.Costs{Load: -1}
	for i, c := range []struct {
		p         api.Program
		costs     api.Costs
		in        api.Inputs
		run, open api.Code
	}{
		{good, api.Costs{}, right, api.OK, api.OK}, {bad, negative, inputs([]int{7}, nil, nil), api.ErrName, api.ErrName}, {good, negative, inputs(nil, nil, nil), api.ErrRange, api.ErrArgument},
		{good, negative, inputs([]int{2}, []int{2}, []int{0, 0}), api.ErrRange, api.ErrRange}, {slow, negative, right, api.ErrRange, api.OK}, {good, api.Costs{}, inputs(nil, []int{2}, []int{0, 0}), api.ErrArgument, api.ErrArgument},
		{good, api.Costs{}, inputs([]int{0, 0}, []int{2}, []int{0, 0}), api.ErrArgument, api.ErrArgument}, {good, api.Costs{}, inputs([]int{2}, []int{9}, []int{0}), api.ErrArgument, api.ErrArgument}, {good, api.Costs{}, inputs([]int{2}, nil, []int{0, 0}), api.ErrArgument, api.ErrArgument},
		{good, api.Costs{}, inputs([]int{1}, []int{2, 2}, []int{5, 0}), api.ErrArgument, api.ErrArgument}, {good, api.Costs{}, inputs([]int{2}, []int{2}, []int{0, 0}), api.ErrRange, api.ErrRange}, {good, api.Costs{}, inputs([]int{-1}, []int{2}, []int{0, 0}), api.ErrRange, api.ErrRange},
		{good, api.Costs{}, inputs([]int{0}, []int{1}, []int{0, 0}), api.ErrRange, api.ErrRange}, {good, api.Costs{}, inputs([]int{0}, []int{4}, []int{0, 0}), api.ErrRange, api.ErrRange}, {good, api.Costs{}, inputs([]int{0}, []int{3}, []int{0, 2}), api.ErrRange, api.ErrRange},
		{slow, api.Costs{}, inputs([]int{0}, []int{3}, []int{-2, 0}), api.ErrRange, api.ErrRange}, {slow, api.Costs{}, inputs([]int{0}, []int{3}, nil), api.ErrArgument, api.ErrArgument}, {slow, api.Costs{}, right, api.ErrLimit, api.OK},
	} {
		if got, code := interp.Run(c.p, c.costs, c.in); code != c.run || code != api.OK && !equalSeen(got, api.Observation{}) {
			t.Errorf("%d: Run = %v, %d, want %d", i, got, code, c.run)
		}
		if got, code := interp.Final(c.p, c.costs, c.in); code != c.run || code != api.OK && got != nil {
			t.Errorf("%d: Final = %v, %d, want %d", i, got, code, c.run)
		}
		if got, code := interp.Hatches(c.p, c.in); code != c.open || code != api.OK && got != nil {
			t.Errorf("%d: Hatches = %v, %d, want %d", i, got, code, c.open)
		}
	}
}

// TestP16_1Time has runs that take as much time as they may, and one unit more.
func TestP16_1Time(t *testing.T) {
	for _, c := range []struct {
		text string
		time int
		code api.Code
	}{
		{"begin for i = 1 to 64 { wait 1048576; } end", 1 << 26, api.OK},
		{"begin for i = 1 to 64 { wait 1048576; } wait 1; end", 0, api.ErrLimit},
		{"begin for i = 1 to 64 { wait 1048576; } wait 0; settle 1048576; end", 1 << 26, api.OK},
		{"begin wait 1; for i = 1 to 64 { wait 1048576; } settle 5, 1048576; end", 0, api.ErrLimit},
		{"begin for i = 1 to 2000 { wait 1048576; } output 1; end", 0, api.ErrLimit},
		{"begin settle 1048576; end", 1 << 20, api.OK},
		{"begin settle 0, 1; end", 0, api.OK},
	} {
		p := parse(t, c.text)
		got, code := interp.Run(p, api.Costs{}, api.Inputs{})
		if !equalSeen(got, api.Observation{Time: c.time}) || code != c.code {
			t.Errorf("Run = %v, %d, want %d, %d: %s", got, code, c.time, c.code, c.text)
		}
		if _, code := interp.Final(p, api.Costs{}, api.Inputs{}); code != c.code {
			t.Errorf("Final = %d, want %d: %s", code, c.code, c.text)
		}
		if _, code := interp.Hatches(p, api.Inputs{}); code != api.OK {
			t.Errorf("Hatches = %d: %s", code, c.text)
		}
	}
}

func TestP16_2Model(t *testing.T) {
	g := newGenerator(162)
	accepted, hatches := 0, 0
	for range 6000 {
		p := g.program()
		c := g.costs()
		_, code := typecheck.Check(p)
		for range 2 {
			in := g.inputs(p)
			var want result
			if code == api.OK {
				want, _ = modelRun(p, c, in)
				accepted++
				hatches += min(len(want.hatches), 1)
			}
			if got, gotCode := interp.Final(p, c, in); !slices.Equal(got, want.final) || gotCode != code {
				t.Fatalf("Final = %v, %d, want %v, %d: %v, %+v", got, gotCode, want.final, code, in, p)
			}
			if got, gotCode := interp.Hatches(p, in); !slices.Equal(got, want.hatches) || gotCode != code {
				t.Fatalf("Hatches = %v, %d, want %v, %d: %v, %+v", got, gotCode, want.hatches, code, in, p)
			}
		}
	}
	if accepted < 5000 || hatches < 1500 {
		t.Errorf("only %d runs, %d with hatches", accepted, hatches)
	}
}

func TestP16_2Hatches(t *testing.T) {
	p := parse(t, `type bit = bool; secret a: array 3 of int[0..9]; hatch sum: int[0..9] = a[0] + a[1]; public n: int[-5..5]; hatch one: bit = a[n] == 1;
		hatch low: int[3..4] = n; var x: int[-9..99]; var y: bool; func f(z: int[0..9]): int[0..9] { return z; }
		begin x = 50; y = release one; output y; x = release low; output x; x = release sum; output x; end`)
	for _, c := range []struct{ secret, public, want []int }{
		{[]int{1, 2, 1}, []int{5}, []int{3, 1, 4}}, {[]int{1, 2, 0}, []int{-5}, []int{3, 1, 3}}, {[]int{9, 9, 9}, []int{1}, []int{9, 0, 3}}, {[]int{0, 0, 1}, []int{2}, []int{0, 1, 3}}, {[]int{0, 0, 1}, []int{4}, []int{0, 1, 4}},
	} {
		in := api.Inputs{Secret: c.secret, Public: c.public}
		if got, code := interp.Hatches(p, in); !slices.Equal(got, c.want) || code != api.OK {
			t.Errorf("Hatches(%v) = %v, %d, want %v", in, got, code, c.want)
		}
		released := []int{c.want[1], c.want[2], c.want[0]}
		if got, code := interp.Run(p, api.Costs{Release: 5, Assign: 7, Output: 1}, in); !equalSeen(got, api.Observation{Outputs: released, Time: 7 + 3*12 + 3}) || code != api.OK {
			t.Errorf("Run(%v) = %v, %d, want %v", in, got, code, released)
		}
	}
}

func TestP16_2Final(t *testing.T) {
	p := parse(t, `var z: record {b: bool, a: int[-3..3]}; secret s: array 2 of bool; type t = int[0..9]; random r: t; hatch h: bool = s[0]; var n: t = 5; public q: record {y: int[7..8], x: bool};
		func f(n2: t): t { return n2; } begin z.a = r - 9; n = call f(q.y); end`)
	in := api.Inputs{Secret: []int{1, 0}, Public: []int{8, 1}, Random: []int{7}}
	if got, code := interp.Final(p, api.Costs{}, in); !slices.Equal(got, []int{0, -2, 1, 0, 7, 8, 8, 1}) || code != api.OK {
		t.Errorf("Final = %v, %d", got, code)
	}
}

func TestP16_2Space(t *testing.T) {
	for _, c := range []struct {
		text  string
		space [3]int
	}{
		{"begin end", [3]int{1, 1, 1}},
		{"secret a: bool; var v: int[0..9]; hatch h: bool = a; begin end", [3]int{2, 1, 1}},
		{"secret a: array 12 of bool; public b: int[1..4096]; random c: record {x: int[-8..7], y: int[0..15]}; begin end", [3]int{4096, 4096, 256}},
		{"type t = int[5..5]; secret a: t; public b: t; public d: int[-1..1]; random c: array 3 of bool; secret e: record {x: int[0..4], y: array 2 of bool}; begin end", [3]int{20, 3, 8}},
	} {
		secret, public, random, code := interp.Space(parse(t, c.text))
		if got := [3]int{secret, public, random}; got != c.space || code != api.OK {
			t.Errorf("Space = %v, %d, want %v: %s", got, code, c.space, c.text)
		}
	}
	g := newGenerator(1623)
	kinds, codes := []api.DeclKind{api.SecretDecl, api.PublicDecl, api.RandomDecl}, map[api.Code]int{}
	for range 5000 {
		p := g.program()
		if g.Intn(10) == 0 {
			p.Decls[g.Intn(len(p.Decls))].Name = "d0"
		}
		_, code := typecheck.Check(p)
		want := [3]int{}
		for i, kind := range kinds {
			if code != api.OK {
				break
			}
			want[i] = 1
			for _, d := range p.Decls {
				if d.Kind == kind {
					expanded, _ := types.Expand(p.Decls, d.Type)
					values, _ := types.Values(expanded)
					want[i] *= values
				}
			}
		}
		secret, public, random, gotCode := interp.Space(p)
		if got := [3]int{secret, public, random}; got != want || gotCode != code {
			t.Fatalf("Space = %v, %d, want %v, %d: %+v", got, gotCode, want, code, p)
		}
		codes[code]++
	}
	if codes[api.OK] < 2000 || codes[api.ErrDuplicate] < 200 {
		t.Errorf("%v", codes)
	}
}

// clone returns a copy of v that shares no memory with it. Its empty lists are not nil if they are wanted so.
func clone[T any](v T, empty bool) T {
	result := reflect.New(reflect.TypeOf(v)).Elem()
	cloneInto(result, reflect.ValueOf(v), empty)
	return result.Interface().(T)
}

func cloneInto(to, from reflect.Value, empty bool) {
	switch from.Kind() {
	case reflect.Struct:
		for i := range from.NumField() {
			cloneInto(to.Field(i), from.Field(i), empty)
		}
	case reflect.Slice:
		if from.Len() > 0 || empty {
			to.Set(reflect.MakeSlice(from.Type(), from.Len(), from.Len()))
		}
		for i := range from.Len() {
			cloneInto(to.Index(i), from.Index(i), empty)
		}
	default:
		to.Set(from)
	}
}

// TestArguments has arguments with empty lists in place of nil, which must not be changed.
func TestArguments(t *testing.T) {
	g := newGenerator(163)
	for range 2000 {
		p, c := g.program(), g.costs()
		in := g.inputs(p)
		other, otherIn := clone(p, true), clone(in, true)
		want, code := interp.Run(p, c, in)
		if got, gotCode := interp.Run(other, c, otherIn); !equalSeen(got, want) || gotCode != code {
			t.Fatalf("Run = %v, %d, with empty lists %v, %d: %+v", want, code, got, gotCode, p)
		}
		final, code := interp.Final(other, c, otherIn)
		for i := range final {
			final[i] = 99
		}
		if _, again := interp.Hatches(other, otherIn); again != code {
			t.Fatalf("Hatches = %d, want %d: %+v", again, code, p)
		}
		if !reflect.DeepEqual(other, clone(p, true)) || !reflect.DeepEqual(otherIn, clone(in, true)) {
			t.Fatalf("an argument is changed: %+v", p)
		}
	}
}
