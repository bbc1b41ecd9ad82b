package typecheck_test

import (
	"strings"
	"testing"

	"keyhole/api"
	"keyhole/parser"
	"keyhole/syntax"
	"keyhole/typecheck"
	"keyhole/types"
)

func parseExpr(t *testing.T, text string) api.Expr {
	t.Helper()
	e, at, code := parser.ParseExpr(text)
	if code != api.OK {
		t.Fatalf("ParseExpr(%q): %d, %d", text, at, code)
	}
	return e
}

// expectType fails unless TypeOf and Range return what the model returns.
func expectType(t *testing.T, p api.Program, e api.Expr) (api.Type, api.Code) {
	t.Helper()
	want, code := typeOf(p, e)
	if got, gotCode := typecheck.TypeOf(p, e); !types.Equal(got, want) || gotCode != code {
		text, _ := syntax.PrintExpr(e)
		t.Fatalf("TypeOf(%s %+v) = %+v, %d, want %+v, %d", text, e, got, gotCode, want, code)
	}
	low, high, rangeCode := want.Low, want.High, code
	if code == api.OK && want.Kind != api.TypeInt {
		low, high, rangeCode = 0, 0, api.ErrType
	}
	if gotLow, gotHigh, got := typecheck.Range(p, e); gotLow != low || gotHigh != high || got != rangeCode {
		text, _ := syntax.PrintExpr(e)
		t.Fatalf("Range(%s) = %d, %d, %d, want %d, %d, %d", text, gotLow, gotHigh, got, low, high, rangeCode)
	}
	return want, code
}

// sides has variables with all kinds of bounds.
const sides = `type r = record {x: int[0..1], y: array 2 of bool};
secret p: int[2..5]; public n: int[-7..-3]; random m: int[-4..6];
var z: int[0..0]; var one: int[1..1]; var pz: int[0..8]; var nz: int[-8..0]; var b: bool;
var big: int[0..1048576]; var all: int[-1048576..1048576]; var edge: int[1048576..1048576];
var a: array 3 of int[-1..9]; var q: r; var t: array 2 of r; var c: array 1 of bool;
hatch h: bool = p > 3; func f(v: bool): bool { return v; } begin end`

// TestP14_2Operators applies each operator to all kinds of operands.
func TestP14_2Operators(t *testing.T) {
	p := parse(t, sides)
	var leaves []api.Expr
	for _, text := range strings.Split("p|n|m|z|pz|nz|b|big|all|edge|a|q|t|h|none|1|true|a[5]|q.y|q.z|c[0]|c[b]", "|") {
		leaves = append(leaves, parseExpr(t, text))
	}
	codes := map[api.Code]int{}
	for op := api.OpNeg; op <= api.OpMax; op++ {
		for _, a := range leaves {
			if op <= api.OpNot {
				_, code := expectType(t, p, api.Expr{Op: op, Kids: []api.Expr{a}})
				codes[code]++
				continue
			}
			for _, b := range leaves {
				_, code := expectType(t, p, api.Expr{Op: op, Kids: []api.Expr{a, b}})
				codes[code]++
			}
		}
	}
	for _, a := range leaves {
		for i := range leaves {
			for k := i % 3; k < len(leaves); k += 3 {
				_, code := expectType(t, p, api.Expr{Op: api.OpCond, Kids: []api.Expr{a, leaves[i], leaves[k]}})
				codes[code]++
			}
		}
		if a.Op >= api.OpName && a.Op <= api.OpIndex {
			for _, b := range leaves {
				expectType(t, p, api.Expr{Op: api.OpIndex, Kids: []api.Expr{a, b}})
			}
			for _, name := range []string{"x", "y", "z"} {
				expectType(t, p, api.Expr{Op: api.OpField, Name: name, Kids: []api.Expr{a}})
			}
		}
	}
	for _, code := range []api.Code{api.OK, api.ErrName, api.ErrType, api.ErrRange} {
		if codes[code] < 50 {
			t.Errorf("only %d expressions with the code %d", codes[code], code)
		}
	}
}

// TestP14_2Ranges has ranges that are written out.
func TestP14_2Ranges(t *testing.T) {
	p := parse(t, sides)
	for _, c := range []struct {
		text      string
		low, high int
	}{
		{"7", 7, 7}, {"0", 0, 0}, {"1048576", 1 << 20, 1 << 20}, {"p", 2, 5}, {"all", -1 << 20, 1 << 20}, {"a[0]", -1, 9}, {"t[1].x", 0, 1},
		{"-p", -5, -2}, {"-n", 3, 7}, {"-m", -6, 4}, {"-all", -1 << 20, 1 << 20}, {"-z", 0, 0},
		{"p + n", -5, 2}, {"m + m", -8, 12}, {"p - n", 5, 12}, {"m - m", -10, 10}, {"n - p", -12, -5},
		{"p * p", 4, 25}, {"p * n", -35, -6}, {"n * n", 9, 49}, {"m * m", -24, 36}, {"m * p", -20, 30}, {"m * n", -42, 28}, {"m * z", 0, 0},
		{"p / p", 0, 5}, {"p / one", 0, 5}, {"p / z", 0, 5}, {"p / pz", 0, 5}, {"p / n", -5, 5}, {"p / m", -5, 5}, {"p / nz", -5, 5}, {"n / p", -7, 7}, {"n / n", -7, 7}, {"m / one", -6, 6}, {"nz / p", -8, 8}, {"z / z", 0, 0}, {"z / n", 0, 0}, {"all / n", -1 << 20, 1 << 20},
		{"p % p", 0, 4}, {"n % p", 0, 4}, {"p % n", -6, 0}, {"p % m", -3, 5}, {"p % z", 0, 0}, {"p % one", 0, 0}, {"p % pz", 0, 7}, {"p % nz", -7, 0}, {"p % -one", 0, 0}, {"one % all", -1048575, 1048575}, {"p % (0 - 1)", 0, 0},
		{"min(p, n)", -7, -3}, {"min(m, p)", -4, 5}, {"max(m, p)", 2, 6}, {"max(n, m)", -4, 6}, {"min(m, m)", -4, 6}, {"max(z, n)", 0, 0},
		{"b ? p : n", -7, 5}, {"b ? one : one", 1, 1}, {"b ? m : p", -4, 6}, {"true ? z : edge", 0, 1 << 20}, {"b ? n : -edge", -1 << 20, -3},
		{"p % 4 * 3 + 1", 1, 10}, {"big - edge", -1 << 20, 0}, {"edge - 1 + one", 1 << 20, 1 << 20}, {"-edge + z", -1 << 20, -1 << 20},
	} {
		e := parseExpr(t, c.text)
		expectType(t, p, e)
		if low, high, code := typecheck.Range(p, e); low != c.low || high != c.high || code != api.OK {
			t.Errorf("Range(%s) = %d, %d, %d, want %d, %d", c.text, low, high, code, c.low, c.high)
		}
	}
	for _, text := range []string{"edge + one", "-edge - one", "big + one", "all * 2", "big * big", "all * all", "big + big - big", "edge - nz", "b ? edge + one : 0", "(edge + one) * none", "a[edge + one]", "min(0, edge + one)"} {
		e := parseExpr(t, text)
		expectType(t, p, e)
		if low, high, code := typecheck.Range(p, e); low != 0 || high != 0 || code != api.ErrRange {
			t.Errorf("Range(%s) = %d, %d, %d", text, low, high, code)
		}
	}
}

func TestP14_2Types(t *testing.T) {
	p := parse(t, sides)
	for text, want := range map[string]string{
		"a": "array 3 of int[-1..9]", "q": "record {x: int[0..1], y: array 2 of bool}", "t": "array 2 of record {x: int[0..1], y: array 2 of bool}", "t[p]": "record {x: int[0..1], y: array 2 of bool}",
		"q.y": "array 2 of bool", "t[0].y[1]": "bool", "t[0].x": "int[0..1]", "p": "int[2..5]", "3": "int[3..3]", "true": "bool", "false": "bool", "b": "bool", "!b": "bool", "p == n": "bool", "b != b": "bool",
		"p < n": "bool", "b && b || b": "bool", "b ? b : b": "bool", "p + 1": "int[3..6]",
	} {
		got, code := expectType(t, p, parseExpr(t, text))
		if printed, _ := syntax.PrintType(got); printed != want || code != api.OK {
			t.Errorf("TypeOf(%s) = %s, %d, want %s", text, printed, code, want)
		}
	}
	for text, want := range map[string]api.Code{
		"none": api.ErrName, "h": api.ErrName, "f": api.ErrName, "v": api.ErrName, "r": api.ErrName, "x": api.ErrName, "q.none": api.ErrName, "q.x.x": api.ErrType, "b.x": api.ErrType, "a.x": api.ErrType, "none.x": api.ErrName,
		"b[0]": api.ErrType, "q[0]": api.ErrType, "a[b]": api.ErrType, "a[a]": api.ErrType, "b[none]": api.ErrName, "-b": api.ErrType, "!p": api.ErrType, "-a": api.ErrType, "p + b": api.ErrType, "b + none": api.ErrName,
		"a == a": api.ErrType, "q == q": api.ErrType, "b == p": api.ErrType, "b < b": api.ErrType, "p && b": api.ErrType, "b || p": api.ErrType, "min(b, b)": api.ErrType, "max(p, a)": api.ErrType,
		"p ? p : p": api.ErrType, "b ? b : p": api.ErrType, "b ? a : a": api.ErrType, "b ? p + b : none": api.ErrType, "none ? -b : 1": api.ErrName, "-b + none": api.ErrType, "edge + 1 + none": api.ErrRange, "none + (edge + 1)": api.ErrName,
	} {
		if got, code := expectType(t, p, parseExpr(t, text)); !types.Equal(got, api.Type{}) || code != want {
			t.Errorf("TypeOf(%s) = %+v, %d, want %d", text, got, code, want)
		}
	}
}

func TestP14_2Random(t *testing.T) {
	codes := map[api.Code]int{}
	for seed, slips := range []int{0, 60, 12} {
		g := newGenerator(int64(1420+seed), slips)
		for range 500 {
			p, w := g.program()
			for range 10 {
				_, code := expectType(t, p, pick(g, w.number(5), w.truth(5), w.wrong(3)))
				codes[code]++
			}
		}
	}
	for _, code := range []api.Code{api.OK, api.ErrName, api.ErrType, api.ErrRange} {
		if codes[code] < 200 {
			t.Errorf("only %d expressions with the code %d", codes[code], code)
		}
	}
}

// TestP14_2Order has errors of the program, of the form of the expression, and of its types.
func TestP14_2Order(t *testing.T) {
	good := parse(t, "var x: bool; begin end")
	deep := api.Expr{Op: api.OpName, Name: "none"}
	for range 12 {
		deep = api.Expr{Op: api.OpNot, Kids: []api.Expr{deep}}
	}
	for i, c := range []struct {
		p    api.Program
		e    api.Expr
		code api.Code
	}{
		{good, api.Expr{Op: api.OpName, Name: "x"}, api.OK}, {good, api.Expr{Op: api.OpName, Name: "y"}, api.ErrName}, {good, api.Expr{Op: 99}, api.ErrArgument}, {good, deep, api.ErrLimit}, {good, deep.Kids[0], api.ErrName},
		{good, api.Expr{N: -1}, api.ErrRange}, {good, api.Expr{N: 1<<20 + 1}, api.ErrRange}, {good, api.Expr{Op: api.OpName, Name: "if"}, api.ErrName}, {good, api.Expr{Op: api.OpNeg}, api.ErrArgument},
		{good, api.Expr{Op: api.OpAdd, Kids: []api.Expr{{Op: api.OpName, Name: "y"}, {N: -1}}}, api.ErrRange}, {good, api.Expr{Op: api.OpRef}, api.ErrArgument}, {good, api.Expr{Op: api.OpSelect, Kids: make([]api.Expr, 2)}, api.ErrArgument},
		{parse(t, "begin if 1 { } end"), api.Expr{Op: 99}, api.ErrType}, {parse(t, "var x: bool; var x: bool; begin end"), deep, api.ErrDuplicate}, {api.Program{Body: []api.Stmt{{Verb: 9}}}, api.Expr{Op: api.OpName, Name: "y"}, api.ErrArgument},
		{parse(t, "var a: array 32 of bool; var b: array 32 of bool; var c: bool; begin end"), api.Expr{Op: 99}, api.ErrLimit},
	} {
		if _, code := expectType(t, c.p, c.e); code != c.code {
			t.Errorf("%d: %d, want %d", i, code, c.code)
		}
		steps, code := typecheck.Steps(c.p)
		if _, want := typecheck.Check(c.p); code != want || steps != 0 {
			t.Errorf("%d: Steps = %d, %d, want %d", i, steps, code, want)
		}
	}
	if _, _, code := typecheck.Range(good, api.Expr{Op: api.OpTrue}); code != api.ErrType {
		t.Errorf("Range of true: %d", code)
	}
	// The variables of for statements are not visible to TypeOf.
	if _, code := typecheck.TypeOf(parse(t, "begin for i = 0 to 1 { output i; } end"), api.Expr{Op: api.OpName, Name: "i"}); code != api.ErrName {
		t.Errorf("TypeOf of a for variable: %d", code)
	}
}

func TestExamples(t *testing.T) {
	text := "secret pin: int[0..9]; var x: int[0..3]; begin %output x == 3; end"
	p := parse(t, strings.Replace(text, "%", "x = pin * 2 + 1; ", 1))
	if at, code := typecheck.Check(p); at != -1 || code != api.OK {
		t.Errorf("Check = %d, %d", at, code)
	}
	if got, code := typecheck.TypeOf(p, parseExpr(t, "pin * 2 + 1")); !types.Equal(got, api.Type{Kind: api.TypeInt, Low: 1, High: 19}) || code != api.OK {
		t.Errorf("TypeOf = %+v, %d", got, code)
	}
	if steps, code := typecheck.Steps(p); steps != 2 || code != api.OK {
		t.Errorf("Steps = %d, %d", steps, code)
	}
	for body, want := range map[string]api.Code{"pin = 1; ": api.ErrState, "output pin && true; ": api.ErrType} {
		if at, code := typecheck.Check(parse(t, strings.Replace(text, "%", body, 1))); at != -1 || code != want {
			t.Errorf("Check with %s= %d, %d", body, at, code)
		}
	}
	if at, code := typecheck.Check(parse(t, "secret pin: int[0..9]; var x: int[0..3]; var pin: bool; begin end")); at != 2 || code != api.ErrDuplicate {
		t.Errorf("Check with a second pin = %d, %d", at, code)
	}
	for text, want := range map[string][2]int{"pin % 4": {0, 3}, "-pin": {-9, 0}, "pin / (pin - 5)": {-9, 9}} {
		if low, high, code := typecheck.Range(p, parseExpr(t, text)); low != want[0] || high != want[1] || code != api.OK {
			t.Errorf("Range(%s) = %d, %d, %d", text, low, high, code)
		}
	}
}
