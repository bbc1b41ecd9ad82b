package parser_test

import (
	"strconv"
	"strings"
	"testing"

	"keyhole/api"
	"keyhole/parser"
	"keyhole/syntax"
)

// leaf returns the text of an expression that is a literal, a truth value or a name.
func leaf(e api.Expr) string {
	switch e.Op {
	case api.OpTrue:
		return "true"
	case api.OpFalse:
		return "false"
	case api.OpName:
		return e.Name
	}
	return strconv.Itoa(e.N)
}

func equalTypes(a, b api.Type) bool {
	return syntax.Equal(api.Program{Decls: []api.Decl{{Type: a}}}, api.Program{Decls: []api.Decl{{Type: b}}})
}

// expectProgram fails unless Parse returns what the model returns. It returns the offset and the code.
func expectProgram(t *testing.T, text string) (int, api.Code) {
	t.Helper()
	got, at, code := parser.Parse(text)
	want, wantAt, wantCode := modelProgram(text)
	if !syntax.Equal(got, want) || at != wantAt || code != wantCode {
		t.Fatalf("Parse(%q) = %+v, %d, %d, want %+v, %d, %d", text, got, at, code, want, wantAt, wantCode)
	}
	return at, code
}

func expectExpr(t *testing.T, text string) (int, api.Code) {
	t.Helper()
	got, at, code := parser.ParseExpr(text)
	want, wantAt, wantCode := modelExpr(text)
	if !syntax.EqualExpr(got, want) || at != wantAt || code != wantCode {
		t.Fatalf("ParseExpr(%q) = %+v, %d, %d, want %+v, %d, %d", text, got, at, code, want, wantAt, wantCode)
	}
	return at, code
}

func expectType(t *testing.T, text string) (int, api.Code) {
	t.Helper()
	got, at, code := parser.ParseType(text)
	want, wantAt, wantCode := modelType(text)
	if !equalTypes(got, want) || at != wantAt || code != wantCode {
		t.Fatalf("ParseType(%q) = %+v, %d, %d, want %+v, %d, %d", text, got, at, code, want, wantAt, wantCode)
	}
	return at, code
}

// random expects texts that follow the rule, the same ones disturbed, and the same ones with a byte changed. Each of the
// codes must occur often.
func random(t *testing.T, rule string, seed int64, rounds, budget int, expect func(*testing.T, string) (int, api.Code), often ...api.Code) {
	g := newGenerator(seed)
	codes := map[api.Code]int{}
	see := func(text string) {
		_, code := expect(t, text)
		codes[code]++
	}
	for range rounds {
		list := g.texts(rule, 1+g.Intn(budget))
		if len(list) > 150 {
			continue
		}
		text := g.lay(list)
		see(text)
		for range 3 {
			list = g.disturb(list)
			see(g.lay(list))
		}
		at := g.Intn(len(text))
		see(text[:at] + string([]byte{byte(g.Intn(128))}) + text[at+1:])
		see(text[:at])
	}
	for _, code := range often {
		if codes[code] < rounds/50 {
			t.Errorf("only %d texts of %d with the code %d", codes[code], rounds, code)
		}
	}
}

func TestP11_1Programs(t *testing.T) {
	random(t, "program", 111, 2500, 16, expectProgram, api.OK, api.ErrSyntax, api.ErrRange)
}

// TestP11_1Statements puts statements into a program, so that there are more of them than at random.
func TestP11_1Statements(t *testing.T) {
	expect := func(t *testing.T, text string) (int, api.Code) {
		t.Helper()
		expectProgram(t, "func f(): bool { "+text+" return a; } begin end")
		return expectProgram(t, "begin "+text+"\nend")
	}
	random(t, "statement", 112, 1500, 14, expect, api.OK, api.ErrSyntax, api.ErrRange)
}

func TestP11_1Declarations(t *testing.T) {
	expect := func(t *testing.T, text string) (int, api.Code) {
		t.Helper()
		return expectProgram(t, text+"\nbegin output a; end")
	}
	random(t, "declaration", 113, 3000, 14, expect, api.OK, api.ErrSyntax, api.ErrRange)
}

func TestP11_2Expressions(t *testing.T) {
	random(t, "expression", 114, 4000, 24, expectExpr, api.OK, api.ErrSyntax)
}

func TestP11_2Types(t *testing.T) {
	random(t, "type", 115, 10000, 6, expectType, api.OK, api.ErrSyntax, api.ErrRange)
}

// everyText expects all texts of up to the given number of tokens of the alphabet that begin like a text of the grammar,
// but for their last token.
func everyText(t *testing.T, alphabet []string, tokens int, expect func(*testing.T, string) (int, api.Code)) {
	var extend func(text string, left int)
	extend = func(text string, left int) {
		at, code := expect(t, text)
		if left == 0 || code == api.ErrSyntax && at < len(text) {
			return
		}
		for _, token := range alphabet {
			extend(text+" "+token, left-1)
		}
	}
	extend("", tokens)
}

// allTokens has a token for each terminal of the grammar.
func allTokens() []string {
	return newGenerator(110).spell(language.terminals())
}

func TestP11_1ShortPrograms(t *testing.T) {
	everyText(t, allTokens(), 5, expectProgram)
	everyText(t, []string{"begin", "end", "a", "=", "1", ";", "if", "else", "{", "}", "output", "func", "(", ")", ":", "bool", "return"}, 8, expectProgram)
}

func TestP11_2ShortExpressions(t *testing.T) {
	everyText(t, allTokens(), 4, expectExpr)
	everyText(t, []string{"a", "1", "-", "!", "+", "*", "==", "&&", "||", "?", ":", "(", ")", "[", "]", ".", "min", ","}, 5, expectExpr)
	everyText(t, []string{"a", "-", "+", "*"}, 8, expectExpr)
	everyText(t, []string{"a", "?", ":", "||"}, 10, expectExpr)
	everyText(t, []string{"a", "==", "<", "&&", "+"}, 7, expectExpr)
}

func TestP11_2ShortTypes(t *testing.T) {
	everyText(t, allTokens(), 5, expectType)
	everyText(t, []string{"record", "{", "a", ":", "bool", ",", "}", "array", "2", "of"}, 8, expectType)
	everyText(t, []string{"int", "[", "-", "1", "..", "0", "]"}, 9, expectType)
}

// TestP11_1Values gives every sign and value to variables of every kind of type.
func TestP11_1Values(t *testing.T) {
	for _, kind := range []string{"bool", "int[0..3]", "int[-3..-1]", "b", "array 2 of bool", "record {x: bool}"} {
		for _, value := range []string{"", "= 0", "= 1", "= 2", "= true", "= false", "= -1", "= - 0", "= -1048576", "= 1048576", "= 1048577", "= x", "= 1 + 1", "=", "= --1", "= (1)", "= -true", "true", "= +1"} {
			declared := "var v: " + kind + " " + value + ";"
			expectProgram(t, declared+" begin end")
			expectProgram(t, "func f(): bool { "+declared+" return v; } begin end")
			expectProgram(t, "func f(v: "+kind+" "+value+"): bool { return v; } begin end")
		}
	}
	p, _, _ := parser.Parse("var a: bool = false; var b: bool = true; var c: int[0..9] = -7; var d: bool; var e: int[0..1] = true; begin end")
	for i, want := range []int{0, 1, -7, 0, 1} {
		if len(p.Decls) != 5 || p.Decls[i].Init != want {
			t.Fatalf("%+v", p.Decls)
		}
	}
}

// TestP11_1Numbers puts signed numbers wherever the grammar has integers.
func TestP11_1Numbers(t *testing.T) {
	for _, a := range []string{"0", "-0", "1", "-1", "- 3", "32", "33", "4096", "4097", "1048576", "-1048576", "1048577", "--1", "a", "true", "01", "1 2"} {
		for _, form := range []string{"wait N;", "while a limit N { }", "for i = N to 3 { }", "for i = -3 to N { }", "settle N;", "settle 1, N;", "settle N, 40, N;"} {
			expectProgram(t, "begin "+strings.ReplaceAll(form, "N", a)+" end")
		}
		for _, form := range []string{"int[N..5]", "int[-5..N]", "array N of bool", "int[N..N]"} {
			expectType(t, strings.ReplaceAll(form, "N", a))
		}
	}
}

func TestP11_1Lexer(t *testing.T) {
	for _, c := range []struct {
		text string
		at   int
		code api.Code
	}{
		{"1 + & )", 4, api.ErrSyntax}, {") &", 2, api.ErrSyntax}, {"+ 1048577", 2, api.ErrRange}, {"a a abcdefghijklm", 4, api.ErrName}, {"( 01", 2, api.ErrSyntax},
		{strings.Repeat(" ", 8193), 0, api.ErrLong}, {strings.Repeat(" ", 8192), 8192, api.ErrSyntax}, {"# a", 3, api.ErrSyntax}, {"a # b", 0, api.OK},
		{strings.Repeat(" ", 8191) + "a", 0, api.OK}, {strings.Repeat(" ", 8192) + "a", 0, api.ErrLong}, {") \x00 & 01", 2, api.ErrSyntax},
	} {
		at, code := expectExpr(t, c.text)
		if at != c.at || code != c.code {
			t.Errorf("ParseExpr(%.20q) = %d, %d, want %d, %d", c.text, at, code, c.at, c.code)
		}
		expectType(t, c.text)
		expectProgram(t, c.text)
		expectProgram(t, "begin "+c.text)
	}
}

func TestP11_1Ends(t *testing.T) {
	for _, c := range []struct {
		text string
		at   int
		code api.Code
	}{
		{"", 0, api.ErrSyntax}, {"begin", 5, api.ErrSyntax}, {"begin \n", 7, api.ErrSyntax}, {"begin end", 0, api.OK}, {"begin end end", 10, api.ErrSyntax},
		{"begin end ;", 10, api.ErrSyntax}, {"begin } end", 6, api.ErrSyntax}, {"end", 0, api.ErrSyntax}, {"a = 1;", 0, api.ErrSyntax}, {"begin a = 1 end", 12, api.ErrSyntax},
		{"begin a end", 8, api.ErrSyntax}, {"begin a = ; end", 10, api.ErrSyntax}, {"begin else { } end", 6, api.ErrSyntax}, {"begin if a { } else if b { } end", 20, api.ErrSyntax},
		{"begin var a: bool; end", 6, api.ErrSyntax}, {"func f() { return 1; } begin end", 9, api.ErrSyntax}, {"func f(): bool { } begin end", 17, api.ErrSyntax},
		{"func f(): bool { return 1; wait 1; } begin end", 27, api.ErrSyntax}, {"func f(): bool { wait 1; var a: bool; return 1; } begin end", 25, api.ErrSyntax},
		{"func f(a: bool,): bool { return 1; } begin end", 15, api.ErrSyntax}, {"begin a = call f(1,); end", 19, api.ErrSyntax}, {"begin a = call f; end", 16, api.ErrSyntax},
		{"begin a = release f(); end", 19, api.ErrSyntax}, {"begin 1 = a; end", 6, api.ErrSyntax}, {"begin (a) = 1; end", 6, api.ErrSyntax}, {"begin a[1 = 1; end", 10, api.ErrSyntax},
		{"begin settle ; end", 13, api.ErrSyntax}, {"begin settle 1,; end", 15, api.ErrSyntax}, {"begin return a; end", 6, api.ErrSyntax}, {"hatch h: bool; begin end", 13, api.ErrSyntax},
		{"type t: bool; begin end", 6, api.ErrSyntax}, {"secret s = bool; begin end", 9, api.ErrSyntax}, {"secret s: bool = 1; begin end", 15, api.ErrSyntax}, {"type bool = bool; begin end", 5, api.ErrSyntax},
		{"secret s: record {}; begin end", 18, api.ErrSyntax}, {"secret s: record {a: bool,}; begin end", 26, api.ErrSyntax}, {"secret s: int[0..]; begin end", 17, api.ErrSyntax},
		{"secret s: int[0.9]; begin end", 15, api.ErrSyntax}, {"begin end # end", 0, api.OK}, {"begin for i = 0 to 1 { wait 1; } end", 0, api.OK},
	} {
		if at, code := expectProgram(t, c.text); at != c.at || code != c.code {
			t.Errorf("Parse(%q) = %d, %d, want %d, %d", c.text, at, code, c.at, c.code)
		}
	}
}
