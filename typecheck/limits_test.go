package typecheck_test

import (
	"strconv"
	"strings"
	"testing"

	"keyhole/api"
	"keyhole/syntax"
	"keyhole/typecheck"
)

// repeat returns the texts that arise from n numbers in place of %.
func repeat(n int, text string) string {
	var b strings.Builder
	for i := range n {
		b.WriteString(strings.ReplaceAll(text, "%", strconv.Itoa(i)))
	}
	return b.String()
}

func expectLimit(t *testing.T, text string, isAbove bool) {
	t.Helper()
	p := parse(t, text)
	want := map[bool]api.Code{true: api.ErrLimit}[isAbove]
	if at, code := typecheck.Check(p); at != -1 || code != want {
		t.Errorf("Check(%.200q) = %d, %d, want %d", text, at, code, want)
	}
}

func TestP14_1Scalars(t *testing.T) {
	for _, kind := range []string{"secret", "public", "random", "var"} {
		for _, c := range []struct {
			decls string
			above bool
		}{
			{repeat(64, kind+" a%: int[5..5];"), false}, {repeat(65, kind+" a%: int[5..5];"), true}, {repeat(2, kind+" a%: array 32 of int[1..1];"), false},
			{repeat(2, kind+" a%: array 32 of int[1..1];") + kind + " b: int[0..0];", true}, {repeat(2, kind+" a%: array 32 of int[1..1];") + "var b: bool;", true},
			{repeat(2, kind+" a%: array 32 of int[1..1];") + "secret b: bool;", true}, {repeat(16, kind+" a%: record {x: array 2 of int[0..0], y: int[0..0], z: int[0..0]};"), false},
			{repeat(64, kind+" a%: int[5..5];") + "type t = array 32 of bool; hatch h: bool = true; func f(a: t, b: t): t { var c: t; return a; }", false},
		} {
			expectLimit(t, c.decls+" begin end", c.above)
		}
	}
	expectLimit(t, repeat(16, "secret a%: int[0..0]; public b%: int[0..0]; random c%: int[0..0]; var d%: bool;")+"begin end", false)
	expectLimit(t, repeat(16, "secret a%: int[0..0]; public b%: int[0..0]; random c%: int[0..0]; var d%: bool;")+"random e: int[0..0]; begin end", true)
	expectLimit(t, repeat(400, "random a%: bool;")+"begin end", true)
}

func TestP14_1Hatches(t *testing.T) {
	for n := range 20 {
		expectLimit(t, repeat(n, "hatch h%: bool = true;")+"begin end", n > 8)
		expectLimit(t, repeat(n, "hatch h%: bool = true; secret s%: int[0..0];")+"begin end", n > 8)
	}
}

func TestP14_1Vectors(t *testing.T) {
	for kind, limit := range map[string]int{"secret": 4096, "public": 4096, "random": 256, "var": 1 << 30} {
		for _, sizes := range [][]int{{255}, {256}, {257}, {4095}, {4096}, {4097}, {16, 16}, {16, 17}, {64, 64}, {63, 65}, {64, 65}, {1 << 20}, {2, 2, 2, 2, 2, 2, 2, 2, 1, 1}, {2, 2, 2, 2, 2, 2, 2, 2, 2}, {1, 4096, 1}, {1, 4097, 1}} {
			decls, vectors := "", 1
			for i, size := range sizes {
				decls += kind + " a" + strconv.Itoa(i) + ": int[-7.." + strconv.Itoa(size-8) + "];"
				vectors *= size
			}
			expectLimit(t, decls+"begin end", vectors > limit)
		}
		for _, c := range []struct {
			of      string
			vectors int
		}{{"array 8 of bool", 256}, {"array 9 of bool", 512}, {"array 12 of bool", 4096}, {"array 13 of bool", 8192}, {"array 2 of int[1..64]", 4096}, {"array 2 of int[0..64]", 4225}, {"record {x: bool, y: int[1..2048]}", 4096}, {"record {x: bool, y: int[1..2049]}", 4098}} {
			expectLimit(t, kind+" a: "+c.of+"; begin end", c.vectors > limit)
		}
		// The numbers of vectors are powers of 2^64, or so large.
		for _, decls := range []string{repeat(2, kind+" a%: array 32 of bool;"), repeat(2, kind+" a%: array 32 of int[1..65536];"), repeat(64, kind+" a%: int[-1048576..1048576];"), repeat(4, kind+" a%: int[1..65536];")} {
			expectLimit(t, decls+"begin end", kind != "var")
		}
	}
	all := "secret a: array 12 of bool; public b: array 12 of bool; random c: array 8 of bool; var d: array 32 of int[-1048576..1048576];"
	expectLimit(t, all+"begin end", false)
	expectLimit(t, all+"func f(p: array 32 of int[0..1000]): bool { return true; } begin end", false)
}

// TestP14_1Work has bodies with their exact numbers of steps, or with outputs around the limit.
func TestP14_1Work(t *testing.T) {
	functions := "func f(): bool { wait 1; wait 2; return true; } func g(): bool { var v: bool; v = call f(); for i = 1 to 3 { v = call f(); } return v; } " +
		"func h(): bool { output 1; output 2; return true; } func big(): bool { while true limit 4096 { output 3; } return true; } "
	for _, c := range []struct {
		body  string
		steps int
	}{
		{"", 0}, {"wait 1;", 1}, {"wait 1; settle 2;", 2}, {"x = true; output x;", 2}, {"if x { }", 1}, {"if x { wait 1; wait 2; } else { wait 1; }", 3}, {"if x { wait 1; } else { wait 1; wait 2; }", 3}, {"if x { } else { if x { wait 1; } }", 3},
		{"while x limit 0 { wait 1; }", 1}, {"while x limit 1 { }", 2}, {"while x limit 5 { wait 1; wait 2; }", 16}, {"while x limit 4095 { }", 4096}, {"while x limit 4096 { }", 4097}, {"while x limit 2047 { wait 1; } wait 1;", 4096}, {"while x limit 2047 { wait 1; } wait 1; wait 1;", 4097},
		{"for i = 5 to 5 { }", 2}, {"for i = -2 to 2 { wait 1; }", 11}, {"for i = 0 to 4094 { }", 4096}, {"for i = 0 to 4095 { }", 4097}, {"for i = -4095 to 0 { }", 4097}, {"for i = 1 to 63 { for k = 1 to 63 { } }", 4096}, {"for i = 1 to 63 { for k = 1 to 63 { } } wait 1;", 4097},
		{"for i = 1 to 3 { while x limit 2 { if x { wait 1; } } }", 25}, {"x = call f();", 3}, {"x = call g();", 17}, {"for i = 1 to 10 { x = call g(); }", 181}, {"while x limit 227 { x = call g(); }" + repeat(9, "wait %;"), 4096}, {"while x limit 227 { x = call g(); }" + repeat(10, "wait %;"), 4097},
		{"x = call h(); x = call h(); x = call h(); x = call h();", 12}, {"while x limit 0 { x = call big(); }", 1}, {"if x { wait 1; } else { } if x { } else { wait 1; }", 4},
		{"x = call big();", 1 + 1 + 8192}, {"while x limit 4096 { while x limit 4096 { } }", 1 + 4096*(1+1+4096)},
	} {
		p := parse(t, "var x: bool; "+functions+"begin "+c.body+" end")
		if steps, _ := work(p); steps.Int64() != int64(c.steps) {
			t.Errorf("%s: the model has %d steps, want %d", c.body, steps, c.steps)
		}
		expectLimit(t, "var x: bool; "+functions+"begin "+c.body+" end", c.steps > 4096)
		steps, code := typecheck.Steps(p)
		if c.steps <= 4096 && (steps != c.steps || code != api.OK) || c.steps > 4096 && (steps != 0 || code != api.ErrLimit) {
			t.Errorf("Steps of %s = %d, %d, want %d", c.body, steps, code, c.steps)
		}
	}
	for _, c := range []struct {
		body  string
		above bool
	}{
		{repeat(8, "output %;"), false}, {repeat(9, "output %;"), true}, {"while x limit 8 { output 1; }", false}, {"while x limit 9 { output 1; }", true}, {"for i = 1 to 8 { output i; }", false}, {"for i = 0 to 8 { output i; }", true},
		{"if x { " + repeat(8, "output %;") + " } else { " + repeat(8, "output %;") + " }", false}, {"if x { " + repeat(9, "output %;") + " }", true}, {"if x { } else { " + repeat(9, "output %;") + " }", true},
		{"if x { " + repeat(7, "output %;") + " } else { " + repeat(8, "output %;") + " } output 9;", true}, {"if x { " + repeat(4, "output %;") + " } else { " + repeat(4, "wait %;") + " } if x { } else { " + repeat(4, "output %;") + " }", false},
		{repeat(4, "x = call h();"), false}, {repeat(4, "x = call h();") + "output 1;", true}, {"for i = 1 to 4 { x = call h(); }", false}, {"for i = 1 to 5 { x = call h(); }", true}, {"while x limit 0 { " + repeat(9, "output %;") + " }", false},
		{"for i = 1 to 2 { for k = 1 to 2 { output k; output i; } }", false}, {"for i = 1 to 3 { for k = 1 to 3 { output k; } }", true},
	} {
		expectLimit(t, "var x: bool; "+functions+"begin "+c.body+" end", c.above)
	}
}

// tower returns functions of which each one calls the one before twice, from one with the statement on.
func tower(s string) string {
	functions := "func f0(): bool { " + s + " return true; }"
	for i := 1; i < 90; i++ {
		call := "v = call f" + strconv.Itoa(i-1) + "();"
		functions += "func f" + strconv.Itoa(i) + "(): bool { var v: bool; " + call + call + " return v; }"
	}
	return functions
}

// TestP14_1Towers has numbers of steps and outputs that no int holds.
func TestP14_1Towers(t *testing.T) {
	for _, c := range []struct {
		body           string
		above          bool
		aboveOfOutputs bool
	}{
		{"", false, false}, {"x = call f3();", false, false}, {"x = call f4();", false, true}, {"x = call f10();", false, true}, {"x = call f11();", true, true}, {"x = call f62();", true, true}, {"x = call f63();", true, true}, {"x = call f64();", true, true},
		{"x = call f65();", true, true}, {"x = call f89();", true, true}, {"while x limit 0 { x = call f89(); }", false, false}, {"while x limit 1 { x = call f64(); }", true, true}, {"while x limit 4096 { x = call f52(); }", true, true},
		{"while x limit 0 { while x limit 4096 { x = call f64(); } }", false, false}, {"if x { } else { x = call f64(); }", true, true}, {"if x { x = call f64(); } else { wait 1; }", true, true},
	} {
		expectLimit(t, "var x: bool; "+tower("wait 1;")+"begin "+c.body+" end", c.above)
		expectLimit(t, "var x: bool; "+tower("output 1;")+"begin "+c.body+" end", c.aboveOfOutputs)
	}
	for n := 2; n <= 12; n++ {
		loops := "begin "
		for i := range n {
			loops += "for i" + strconv.Itoa(i) + " = 1 to 4096 { "
		}
		expectLimit(t, loops+strings.Repeat("}", n)+" end", true)
		if n < 12 {
			expectLimit(t, strings.Replace(loops, "begin", "begin while true limit 0 {", 1)+strings.Repeat("}", n)+" } end", false)
		}
	}
}

// TestP14_1LimitsLast has errors of the Body, or of declarations, beside a limit that is passed.
func TestP14_1LimitsLast(t *testing.T) {
	above := repeat(65, "var a%: bool;") + repeat(9, "hatch h%: bool = true;")
	for _, c := range []struct {
		text string
		at   int
		code api.Code
	}{
		{above + "begin end", -1, api.ErrLimit}, {above + "begin output none; end", -1, api.ErrName}, {above + "begin while true limit 4096 { } a0 = 1; end", -1, api.ErrType},
		{above + "hatch g: bool = 1; begin end", 74, api.ErrType}, {above + "var a3: bool; begin end", 74, api.ErrDuplicate}, {"begin while true limit 4096 { } settle 1; wait 1; end", -1, api.ErrState},
		{"func f(): bool { while true limit 4096 { } return true; } begin end", -1, api.OK}, {"func f(): bool { " + repeat(9, "output %;") + " return true; } begin end", -1, api.OK},
	} {
		if at, code := typecheck.Check(parse(t, c.text)); at != c.at || code != c.code {
			t.Errorf("Check(%.60q..%.40q) = %d, %d, want %d, %d", c.text, c.text[max(0, len(c.text)-40):], at, code, c.at, c.code)
		}
	}
}

// TestLongChains has as many declarations as a program may have, of which each one names the one before.
func TestLongChains(t *testing.T) {
	wide := api.Type{Kind: api.TypeArray, Size: 32, Of: []api.Type{{}}}
	for range 9 {
		wide = api.Type{Kind: api.TypeRecord, Names: []string{"x"}, Of: []api.Type{wide}}
	}
	p := api.Program{Decls: []api.Decl{{Name: "t0", Type: wide}}}
	for i := 1; i < 490; i++ {
		p.Decls = append(p.Decls, api.Decl{Name: "t" + strconv.Itoa(i), Type: api.Type{Kind: api.TypeName, Name: "t" + strconv.Itoa(i-1)}})
	}
	p.Decls = append(p.Decls, api.Decl{Kind: api.VarDecl, Name: "v", Type: api.Type{Kind: api.TypeName, Name: "t489"}})
	if size, code := syntax.Size(p); size < 950 || code != api.OK {
		t.Fatalf("%d nodes, %d", size, code)
	}
	for range 20 {
		if at, code := typecheck.Check(p); at != -1 || code != api.OK {
			t.Fatalf("Check = %d, %d", at, code)
		}
	}
	if got, code := typecheck.TypeOf(p, api.Expr{Op: api.OpName, Name: "v"}); code != api.OK || got.Kind != api.TypeRecord {
		t.Errorf("TypeOf = %+v, %d", got, code)
	}
	p.Decls[480].Type.Name = "t481"
	if at, code := typecheck.Check(p); at != 480 || code != api.ErrName {
		t.Errorf("Check = %d, %d", at, code)
	}
}
