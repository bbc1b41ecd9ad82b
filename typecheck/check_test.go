package typecheck_test

import (
	"strings"
	"testing"

	"keyhole/api"
	"keyhole/parser"
	"keyhole/syntax"
	"keyhole/typecheck"
)

// parse returns the program with a text, which must be well formed.
func parse(t *testing.T, text string) api.Program {
	t.Helper()
	p, at, code := parser.Parse(text)
	if code != api.OK {
		t.Fatalf("Parse(%.300q): %d, %d", text, at, code)
	}
	return p
}

// expectCheck fails unless Check returns the first error that the model finds.
func expectCheck(t *testing.T, p api.Program) (int, api.Code) {
	t.Helper()
	at, code := first(check(p))
	if gotAt, got := typecheck.Check(p); gotAt != at || got != code {
		text, _ := syntax.Print(p)
		t.Fatalf("Check = %d, %d, want %d, %d: %s\n%+v", gotAt, got, at, code, text, p)
	}
	return at, code
}

func TestP14_1Programs(t *testing.T) {
	codes := map[api.Code]int{}
	places := map[int]int{}
	for seed, slips := range []int{0, 150, 40, 12} {
		g := newGenerator(int64(1410+seed), slips)
		for range 4000 {
			p, _ := g.program()
			at, code := expectCheck(t, p)
			codes[code]++
			if code != api.OK {
				places[at]++
			}
			if slips > 0 {
				g.mutate(&p)
				_, code = expectCheck(t, p)
				codes[code]++
			}
		}
	}
	for _, code := range []api.Code{api.OK, api.ErrArgument, api.ErrMismatch, api.ErrRange, api.ErrLimit, api.ErrName, api.ErrDuplicate, api.ErrType, api.ErrState} {
		if codes[code] < 50 {
			t.Errorf("only %d programs with the code %d", codes[code], code)
		}
	}
	for at := -1; at < 6; at++ {
		if places[at] < 100 {
			t.Errorf("only %d programs with an error in the declaration %d", places[at], at)
		}
	}
}

// scene has a declaration of each kind. The texts %f and %b are what is tried in the function and in the Body.
const scene = `type t = int[0..3];
type pair = record {x: bool, y: t};
secret s: int[0..9];
public q: pair;
random coin: bool;
var n: int[-2..2];
var b: bool;
var list: array 2 of pair;
var row: array 3 of t;
var big: int[0..1048576];
hatch h: t = s;
hatch odd: bool = s % 2 == 1;
func one(v: t): t { return v; }
func two(v: pair, w: bool): pair { v.x = w; return v; }
func try(v: t, e: pair, m: int[-1..1], d: array 3 of t): t { var o: bool; var u: array 2 of pair; %f return v; }
func late(): bool { return true; }
begin %b end`

// expectScene compares Check with the model, with a text in the function and in the Body.
func expectScene(t *testing.T, inFunction, inBody string) (int, api.Code) {
	t.Helper()
	return expectCheck(t, parse(t, strings.NewReplacer("%f", inFunction, "%b", inBody).Replace(scene)))
}

// everywhere puts a statement at different places of the Body.
func everywhere(s string) []string {
	return []string{
		s, "wait 1; " + s + " wait 2;", "if b { " + s + " }", "if b { } else { wait 1; " + s + " }", "while b limit 3 { " + s + " }",
		"for i = -1 to 1 { " + s + " }", "for k = 1 to 1 { wait 1; for i = 0 to 3 { if b { } else { " + s + " } } }",
	}
}

const (
	places = "n b list list[0] list[n] list[i] list[0].x list[1].z list.x n.x n[0] row[b] row[none] row[s] row none s q q.x q.y q[0] coin i big h one t pair v e e.x e.y u u[m] o d d[v]"
	values = "1|true|s|n|b|q|list|list[0]|list[1].y|row|row[n]|i|none|s + true|big + 1|-big|-big - 1|big * big|row[none]|list[0] == list[1]|b ? n : s|b ? q : q|h|one|none + none|none + (b + 1)|v|e|e.y|u[1]|o|d"
)

func TestP14_1Assignments(t *testing.T) {
	for _, place := range strings.Split(places, " ") {
		for _, value := range strings.Split(values, "|") {
			s := place + " = " + value + ";"
			expectScene(t, "", s)
			expectScene(t, "", "for i = 1 to 2 { "+s+" }")
			expectScene(t, s, "")
			expectScene(t, "for i = 1 to 2 { "+s+" }", s)
		}
	}
}

func TestP14_1Calls(t *testing.T) {
	arguments := []string{"1", "true", "s", "q", "list[0]", "none", "s + true", "big + 1", "v", "e", "i"}
	for _, place := range strings.Split("n b row[0] row list[1] q s none n.x i v e o m", " ") {
		for _, call := range []string{"late()", "late(1)", "one()", "two()", "two(q)", "two(q, b, b)", "none()", "none(none)", "h(1)", "s()", "try(1, q, 2, row)", "try(v, e, m, d)"} {
			s := place + " = call " + call + ";"
			expectScene(t, "", s)
			expectScene(t, s, s)
			expectScene(t, "", "for i = 0 to 1 { "+s+" }")
		}
		for _, a := range arguments {
			one := place + " = call one(" + a + ");"
			expectScene(t, one, "")
			for _, within := range everywhere(one) {
				expectScene(t, "", within)
			}
			for _, b := range arguments {
				two := place + " = call two(" + a + ", " + b + ");"
				expectScene(t, two, "")
				expectScene(t, "", two)
			}
		}
	}
}

func TestP14_1OtherStatements(t *testing.T) {
	for _, place := range strings.Split(places, " ") {
		for _, hatch := range []string{"h", "odd", "s", "one", "none", "i"} {
			s := place + " = release " + hatch + ";"
			for _, within := range everywhere(s) {
				expectScene(t, "", within)
			}
			expectScene(t, s, "")
			expectScene(t, "if o { "+s+" }", "")
		}
	}
	for _, value := range strings.Split(values, "|") {
		for _, then := range []string{"", "none = 1;", "s = 1;", "output big + 1;"} {
			for _, s := range []string{"output " + value + ";", "if " + value + " { " + then + " }", "if " + value + " { } else { " + then + " }",
				"if " + value + " { output b + b; } else { " + then + " }", "if " + value + " { " + then + " } else { output none; }", "while " + value + " limit 2 { " + then + " }"} {
				for _, within := range everywhere(s) {
					expectScene(t, "", within)
				}
				expectScene(t, s, "")
			}
		}
	}
	for _, name := range []string{"i", "k", "s", "n", "t", "pair", "h", "one", "late", "try", "x", "y", "v", "u", "o", "free"} {
		s := "for " + name + " = 0 to 2 { row[" + name + "] = 1; " + name + " = 1; }"
		for _, within := range everywhere(s) {
			expectScene(t, "", within)
		}
		expectScene(t, s, s)
		expectScene(t, "for free = 1 to 2 { "+s+" }", "for free = 1 to 2 { } "+s)
	}
	for _, s := range []string{"settle 1;", "settle 1, 2; wait 1;", "wait 1; settle 1;", "settle 1; settle 2;", "output none; settle 1;", "settle 1; output none;", "if b { settle 1; }"} {
		for _, within := range everywhere(s) {
			expectScene(t, "", within)
		}
		expectScene(t, s, "")
		expectScene(t, "", "if b { } "+s)
	}
}

// TestP14_1Table has codes that are written out, one or more for each sentence of the chapter.
func TestP14_1Table(t *testing.T) {
	for _, c := range []struct {
		text string
		at   int
		code api.Code
	}{
		{"begin end", -1, api.OK},
		// Names that are declared twice.
		{"secret s: bool; var s: bool; begin end", 1, api.ErrDuplicate}, {"type s = bool; func f(): bool { return true; } hatch s: bool = true; begin end", 2, api.ErrDuplicate},
		{"func f(f: bool): bool { return f; } begin end", 0, api.ErrDuplicate}, {"func f(a: bool): bool { return a; } var a: bool; begin end", 0, api.ErrDuplicate},
		{"func f(a: bool, a: bool): bool { return a; } begin end", 0, api.ErrDuplicate}, {"func f(a: bool): bool { var a: bool; return a; } begin end", 0, api.ErrDuplicate},
		{"func f(): bool { var a: bool; var a: bool; return a; } begin end", 0, api.ErrDuplicate}, {"func f(a: bool): bool { return a; } func g(a: bool): bool { return a; } begin end", -1, api.OK},
		{"type r = record {a: bool}; var a: r; begin end", -1, api.OK}, {"var x: none; var x: bool; begin end", 1, api.ErrDuplicate}, {"var y: none; func f(f: bool): bool { return f; } begin end", 1, api.ErrDuplicate},
		// Types.
		{"type t = none; begin end", 0, api.ErrName}, {"var a: t; type t = bool; begin end", 0, api.ErrName}, {"type t = t; begin end", 0, api.ErrName}, {"var a: bool; secret s: record {a: bool, a: bool}; begin end", 1, api.ErrDuplicate},
		{"var a: array 2 of array 17 of bool; begin end", 0, api.ErrLimit}, {"type t = array 17 of bool; var a: t; public b: array 2 of t; begin end", 2, api.ErrLimit},
		{"type t = record {a: bool}; type u = array 2 of t; random b: u; var x: bool; begin x = b[0].a; end", -1, api.OK}, {"func f(a: none): bool { return none; } begin end", 0, api.ErrName},
		{"func f(a: bool): none { return a; } begin end", 0, api.ErrName}, {"func f(): bool { var a: array 8 of array 8 of bool; return true; } begin end", 0, api.ErrLimit},
		{"func f(a: record {x: bool, x: bool}): bool { var c: none; return none; } begin end", 0, api.ErrDuplicate},
		// Hatches.
		{"secret s: bool; hatch h: bool = s; begin end", -1, api.OK}, {"hatch h: bool = s; secret s: bool; begin end", 0, api.ErrName}, {"var v: bool; hatch h: bool = v; begin end", 1, api.ErrName},
		{"hatch h: bool = true; hatch g: bool = h; begin end", 1, api.ErrName}, {"secret s: int[0..3]; hatch h: bool = s; begin end", 1, api.ErrType}, {"secret s: int[0..3]; hatch h: int[7..8] = s; begin end", -1, api.OK},
		{"secret s: array 2 of bool; hatch h: array 2 of bool = s; begin end", 1, api.ErrType}, {"hatch h: array 2 of bool = none; begin end", 0, api.ErrType}, {"hatch h: none = none2; begin end", 0, api.ErrName},
		{"public p: int[0..1048576]; random r: bool; hatch h: bool = r ? p + 1 > 0 : r; begin end", 2, api.ErrRange}, {"secret s: array 2 of bool; hatch h: bool = s; begin end", 1, api.ErrType},
		// Functions.
		{"func f(a: int[0..1]): int[5..6] { a = a + 5; return a; } begin end", -1, api.OK}, {"func f(): bool { return 1; } begin end", 0, api.ErrType}, {"func f(): bool { return none; } begin end", 0, api.ErrName},
		{"func f(a: array 2 of bool): array 2 of bool { return a; } begin end", -1, api.OK}, {"func f(a: array 2 of bool): array 3 of bool { return a; } begin end", 0, api.ErrType},
		{"func f(a: record {x: bool}): record {y: bool} { return a; } begin end", 0, api.ErrType}, {"func f(a: array 2 of int[0..1]): array 2 of int[0..2] { return a; } begin end", 0, api.ErrType},
		{"secret s: bool; func f(): bool { return s; } begin end", 1, api.ErrName}, {"var v: bool; func f(): bool { v = true; return true; } begin end", 1, api.ErrName},
		{"func f(): int[0..9] { for i = 0 to 2 { wait 1; } return i; } begin end", 0, api.ErrName}, {"func f(a: bool): bool { for a = 0 to 2 { } return a; } begin end", 0, api.ErrDuplicate},
		{"func f(a: bool): bool { a = call f(a); return a; } begin end", 0, api.ErrName}, {"func f(a: bool): bool { a = call g(a); return a; } func g(a: bool): bool { return a; } begin end", 0, api.ErrName},
		{"func g(a: bool): bool { return a; } func f(a: bool): bool { a = call g(a); return a; } begin end", -1, api.OK}, {"hatch h: bool = true; func f(a: bool): bool { a = release h; return a; } begin end", 1, api.ErrState},
		{"func f(a: bool): bool { a = release none; return a; } begin end", 0, api.ErrState}, {"func f(): bool { settle 1; return true; } begin end", 0, api.ErrState}, {"func f(): bool { return none; } begin settle 1; wait 1; end", 0, api.ErrName},
		{"func f(): bool { output none; return 1; } begin end", 0, api.ErrName}, {"func f(): bool { if 1 { } return none; } begin end", 0, api.ErrType},
		// The Body.
		{"secret s: bool; begin s = true; end", -1, api.ErrState}, {"public s: array 2 of bool; begin s[0] = none; end", -1, api.ErrState}, {"random s: bool; begin s = true; end", -1, api.ErrState},
		{"begin for i = 0 to 1 { i = 0; } end", -1, api.ErrState}, {"begin for i = 0 to 1 { } for i = 0 to 1 { } end", -1, api.OK}, {"begin for i = 0 to 1 { for i = 0 to 1 { } } end", -1, api.ErrDuplicate},
		{"var x: int[0..9]; begin for i = 0 to 1 { } x = i; end", -1, api.ErrName}, {"func i(): bool { return true; } begin for i = 0 to 1 { } end", -1, api.ErrDuplicate}, {"var a: bool; begin a = call a(); end", -1, api.ErrName},
		{"var a: bool; func f(): bool { return true; } begin a = call f(none); end", -1, api.ErrMismatch}, {"var a: int[0..1]; func f(): bool { return true; } begin a = call f(); end", -1, api.ErrType},
		{"var a: bool; func f(b: bool): int[0..1] { return 1; } begin a = call f(none); end", -1, api.ErrName}, {"var a: bool; begin a = release none; end", -1, api.ErrName}, {"var a: bool; hatch h: int[0..1] = 1; begin a = release h; end", -1, api.ErrType},
		{"var a: array 2 of bool; begin output a; end", -1, api.ErrType}, {"var a: array 2 of bool; begin output a[a[0]]; end", -1, api.ErrType}, {"var a: array 2 of bool; begin output a[5]; end", -1, api.OK},
		{"begin if 1 { } end", -1, api.ErrType}, {"begin while 1 limit 1 { } end", -1, api.ErrType}, {"begin while true limit 0 { output none; } end", -1, api.ErrName}, {"begin if false { } else { settle 1; } end", -1, api.ErrState},
		{"begin settle 1; end", -1, api.OK}, {"begin settle 1; settle 2; end", -1, api.ErrState}, {"begin settle 1; output none; end", -1, api.ErrState}, {"begin output none; settle 1; wait 1; end", -1, api.ErrName},
		{"var a: bool; var b: array 2 of bool; begin a = b; end", -1, api.ErrType}, {"var a: bool; var b: array 2 of bool; begin b = a; end", -1, api.ErrType}, {"type t = bool; var a: array 2 of t; var b: array 2 of bool; begin b = a; end", -1, api.OK},
		{"begin none = none2; end", -1, api.ErrName}, {"type t = bool; begin t = true; end", -1, api.ErrName}, {"type t = record {a: bool}; secret x: t; begin x.c = true; end", -1, api.ErrName}, {"secret x: bool; begin x.c = true; end", -1, api.ErrType},
	} {
		if at, code := expectCheck(t, parse(t, c.text)); at != c.at || code != c.code {
			t.Errorf("Check(%q) = %d, %d, want %d, %d", c.text, at, code, c.at, c.code)
		}
	}
}

// TestP14_1Malformed has programs that layer 10 does not accept, with other errors beside.
func TestP14_1Malformed(t *testing.T) {
	twins := []api.Decl{{Kind: api.VarDecl, Name: "x"}, {Kind: api.VarDecl, Name: "x"}}
	var deep []api.Stmt
	for range 13 {
		deep = []api.Stmt{{Verb: api.IfStmt, Value: api.Expr{Op: api.OpName, Name: "none"}, Then: deep}}
	}
	for i, c := range []struct {
		p    api.Program
		code api.Code
	}{
		{api.Program{Decls: twins}, api.ErrDuplicate}, {api.Program{Decls: twins, Body: []api.Stmt{{Verb: 9}}}, api.ErrArgument}, {api.Program{Decls: twins, Body: []api.Stmt{{}}}, api.ErrArgument},
		{api.Program{Decls: append(twins[:1:1], api.Decl{Kind: 7, Name: "y"})}, api.ErrArgument}, {api.Program{Decls: append(twins[:2:2], api.Decl{Name: "if"})}, api.ErrName},
		{api.Program{Decls: twins, Body: []api.Stmt{{Verb: api.WaitStmt, N: -1}}}, api.ErrRange}, {api.Program{Decls: twins, Body: deep}, api.ErrLimit}, {api.Program{Body: deep[0].Then}, api.ErrName},
		{api.Program{Body: make([]api.Stmt, 1025)}, api.ErrLimit}, {api.Program{Decls: make([]api.Decl, 1<<12)}, api.ErrLimit},
	} {
		at, code := expectCheck(t, c.p)
		if want := map[bool]int{true: 1, false: -1}[c.code == api.ErrDuplicate]; at != want || code != c.code {
			t.Errorf("%d: %d, %d, want %d, %d", i, at, code, want, c.code)
		}
	}
}
