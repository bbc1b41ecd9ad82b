package parser_test

import (
	"strings"
	"testing"

	"keyhole/api"
	"keyhole/parser"
	"keyhole/syntax"
)

func TestP11_2Depth(t *testing.T) {
	for _, c := range []struct {
		before, within, behind string
		grows                  bool // whether each repetition makes the tree deeper by 1
	}{
		{"-", "a", "", true}, {"!", "1", "", true}, {"- !", "a", "", false}, {"a[", "1", "]", true}, {"min(", "a", ", b)", true}, {"", "a", ".b", true}, {"", "a", " + 1", true},
		{"1 + (", "a", ")", true}, {"a ? b : ", "c", "", true}, {"a ? ", "b", " : c", true}, {"", "a", "[1]", true}, {"", "a", " || b", true}, {"a == (", "b", ")", true}, {"(", "a", ")", false},
	} {
		for count := range 30 {
			text := strings.Repeat(c.before, count) + c.within + strings.Repeat(c.behind, count)
			_, code := expectExpr(t, text)
			if want := map[bool]api.Code{true: api.ErrLimit}[c.grows && count > 11]; c.grows && code != want {
				t.Errorf("ParseExpr(%q) = %d, want %d", text, code, want)
			}
			expectProgram(t, "begin output "+text+"; end")
			expectProgram(t, "hatch h: bool = "+text+"; begin end")
		}
	}
	for count := range 16 {
		want := map[bool]api.Code{true: api.ErrLimit}[count > 11]
		if _, code := expectType(t, strings.Repeat("array 1 of ", count)+"bool"); code != want {
			t.Errorf("%d arrays: %d", count, code)
		}
		if _, code := expectType(t, strings.Repeat("record {a: ", count)+"b"+strings.Repeat("}", count)); code != want {
			t.Errorf("%d records: %d", count, code)
		}
		for _, head := range []string{"if a {", "if a { wait 1; } else {", "while a limit 1 {", "for i = 0 to 1 {"} {
			if _, code := expectProgram(t, "begin "+strings.Repeat(head, count)+"wait 1;"+strings.Repeat("}", count)+" end"); code != want {
				t.Errorf("%q %d times: %d", head, count, code)
			}
		}
	}
}

// TestP11_2Long parses texts of the greatest length that descend as far as possible.
func TestP11_2Long(t *testing.T) {
	half := (api.MaxText - 1) / 2
	text := strings.Repeat("(", half) + "a" + strings.Repeat(")", half)
	if e, at, code := parser.ParseExpr(text); !syntax.EqualExpr(e, api.Expr{Op: api.OpName, Name: "a"}) || at != 0 || code != api.OK {
		t.Errorf("%d parentheses: %d, %d", half, at, code)
	}
	for _, c := range []struct {
		text string
		at   int
		code api.Code
	}{
		{strings.Repeat("(", 8192), 8192, api.ErrSyntax}, {strings.Repeat("-", 8192), 8192, api.ErrSyntax}, {strings.Repeat("a[", 4096), 8192, api.ErrSyntax},
		{strings.Repeat("-", 8191) + "a", 0, api.ErrLimit}, {strings.Repeat("a+", 4095) + "a", 0, api.ErrLimit}, {"a" + strings.Repeat(".b", 4095), 0, api.ErrLimit},
		{strings.Repeat("(", 8191) + ")", 8191, api.ErrSyntax}, {strings.Repeat("min(", 2048), 8192, api.ErrSyntax}, {strings.Repeat("a?", 4096), 8192, api.ErrSyntax},
		{strings.Repeat("a?a:", 2047) + "a", 0, api.ErrLimit}, {strings.Repeat("!", 8193), 0, api.ErrLong},
	} {
		if e, at, code := parser.ParseExpr(c.text); !syntax.EqualExpr(e, api.Expr{}) || at != c.at || code != c.code {
			t.Errorf("ParseExpr(%.10q...) = %d, %d, want %d, %d", c.text, at, code, c.at, c.code)
		}
	}
	for _, c := range []struct {
		text string
		at   int
		code api.Code
	}{
		{strings.Repeat("array 1 of ", 744) + "bool", 0, api.ErrLimit}, {strings.Repeat("record{a:", 910), 8190, api.ErrSyntax},
	} {
		if _, at, code := parser.ParseType(c.text); at != c.at || code != c.code {
			t.Errorf("ParseType(%.10q...) = %d, %d, want %d, %d", c.text, at, code, c.at, c.code)
		}
	}
	for _, c := range []struct {
		text string
		at   int
		code api.Code
	}{
		{"begin " + strings.Repeat("if a{", 1637), 8191, api.ErrSyntax}, {"begin " + strings.Repeat("if a{", 1364) + strings.Repeat("}", 1361) + "end", 8187, api.ErrSyntax},
	} {
		if _, at, code := parser.Parse(c.text); at != c.at || code != c.code {
			t.Errorf("Parse(%.10q...) = %d, %d, want %d, %d", c.text, at, code, c.at, c.code)
		}
	}
}

func TestP11_1Nodes(t *testing.T) {
	for count := 1015; count <= 1035; count++ {
		want := map[bool]api.Code{true: api.ErrLimit}[count > 1024]
		if _, code := expectProgram(t, "begin "+strings.Repeat("wait 1;\n", count/2)+"end"); code != api.OK {
			t.Errorf("%d statements: %d", count/2, code)
		}
		text := "begin " + strings.Repeat("wait 0;", count) + "end"
		if _, at, code := parser.Parse(text); at != 0 || code != want {
			t.Errorf("%d nodes: %d, %d, want %d", count, at, code, want)
		}
	}
}

// TestP11_1Order has texts with several errors.
func TestP11_1Order(t *testing.T) {
	deep := strings.Repeat("-", 12) + "a"
	for _, c := range []struct {
		text string
		at   int
		code api.Code
	}{
		{"begin wait -1; output " + deep + "; end", 0, api.ErrLimit}, {"begin output " + deep + "; wait -1; end", 0, api.ErrLimit}, {"begin wait -1; end", 0, api.ErrRange},
		{"begin wait -1; output " + deep + "; ) end", 37, api.ErrSyntax}, {"begin wait -1; ) end", 15, api.ErrSyntax}, {"begin wait -1; ) & end", 17, api.ErrSyntax},
		{"begin wait -1; ) 1048577 end", 17, api.ErrRange}, {"begin ) " + deep + " abcdefghijklm", 22, api.ErrName},
	} {
		if at, code := expectProgram(t, c.text); at != c.at || code != c.code {
			t.Errorf("Parse(%q) = %d, %d, want %d, %d", c.text, at, code, c.at, c.code)
		}
	}
}

func TestExamples(t *testing.T) {
	name := func(s string) api.Expr { return api.Expr{Op: api.OpName, Name: s} }
	e, at, code := parser.ParseExpr("a - b - c[1].d")
	want := api.Expr{Op: api.OpSub, Kids: []api.Expr{
		{Op: api.OpSub, Kids: []api.Expr{name("a"), name("b")}},
		{Op: api.OpField, Name: "d", Kids: []api.Expr{{Op: api.OpIndex, Kids: []api.Expr{name("c"), {N: 1}}}}},
	}}
	if !syntax.EqualExpr(e, want) || at != 0 || code != api.OK {
		t.Errorf("%+v, %d, %d", e, at, code)
	}
	for text, want := range map[string]int{"a == b == c": 7, "1 +": 3, "": 0, "(a": 2, "a )": 2} {
		if e, at, code := parser.ParseExpr(text); !syntax.EqualExpr(e, api.Expr{}) || at != want || code != api.ErrSyntax {
			t.Errorf("ParseExpr(%q) = %+v, %d, %d", text, e, at, code)
		}
	}
	p, at, code := parser.Parse("secret pin: int[0..9];\nvar b: bool = true;\nbegin if pin == 3 { output pin; } else { b = !b; } end")
	wanted := api.Program{
		Decls: []api.Decl{{Kind: api.SecretDecl, Name: "pin", Type: api.Type{Kind: api.TypeInt, High: 9}}, {Kind: api.VarDecl, Name: "b", Init: 1}},
		Body: []api.Stmt{{
			Verb: api.IfStmt, Value: api.Expr{Op: api.OpEq, Kids: []api.Expr{name("pin"), {N: 3}}},
			Then: []api.Stmt{{Verb: api.OutputStmt, Value: name("pin")}},
			Else: []api.Stmt{{Place: name("b"), Value: api.Expr{Op: api.OpNot, Kids: []api.Expr{name("b")}}}},
		}},
	}
	if !syntax.Equal(p, wanted) || at != 0 || code != api.OK {
		t.Errorf("%+v, %d, %d", p, at, code)
	}
	if _, at, code := parser.ParseType("array 33 of bool"); at != 0 || code != api.ErrRange {
		t.Errorf("%d, %d", at, code)
	}
	if _, at, code := parser.ParseType("array 2 bool"); at != 8 || code != api.ErrSyntax {
		t.Errorf("%d, %d", at, code)
	}
}

// TestMemory changes a result everywhere, which later results must not show.
func TestMemory(t *testing.T) {
	text := "type t = record {a: bool, b: bool}; func f(a: bool): bool { var v: bool; wait 1; return a; } begin a[1] = call f(1, 2); settle 1, 2; if a { wait 2; } else { wait 3; } end"
	first, _, _ := parser.Parse(text)
	second, _, _ := parser.Parse(text)
	first.Decls[0].Type.Names[0], first.Decls[0].Type.Of[0].Kind = "x", 9
	first.Decls[1].Params[0].Name, first.Decls[1].Vars[0].Name, first.Decls[1].Body[0].N = "x", "x", 9
	first.Body[0].Place.Kids[0].Name, first.Body[0].Args[0].N, first.Body[1].Numbers[0] = "x", 9, 9
	first.Body[2].Then[0].N, first.Body[2].Else[0].N = 9, 9
	third, _, _ := parser.Parse(text)
	if !syntax.Equal(second, third) {
		t.Errorf("%+v, %+v", second, third)
	}
}
