package parser_test

import (
	"strings"
	"testing"

	"keyhole/api"
	"keyhole/lexer"
	"keyhole/parser"
	"keyhole/syntax"
)

func TestP11_3Programs(t *testing.T) {
	g := newGenerator(1131)
	done := 0
	for range 4000 {
		p := g.program()
		text, code := syntax.Print(p)
		if code == api.ErrLong {
			continue
		}
		if got, at, code := parser.Parse(text); !syntax.Equal(got, p) || at != 0 || code != api.OK {
			t.Fatalf("Parse(%q) = %+v, %d, %d, want %+v", text, got, at, code, p)
		}
		done++
	}
	if done < 3000 {
		t.Errorf("only %d programs", done)
	}
}

func TestP11_3ExpressionsAndTypes(t *testing.T) {
	g := newGenerator(1132)
	for range 10000 {
		e, kind := g.expr(1+g.Intn(6)), g.kind(4)
		if text, code := syntax.PrintExpr(e); code == api.OK {
			if got, at, code := parser.ParseExpr(text); !syntax.EqualExpr(got, e) || at != 0 || code != api.OK {
				t.Fatalf("ParseExpr(%q) = %+v, %d, %d, want %+v", text, got, at, code, e)
			}
		}
		if text, code := syntax.PrintType(kind); code == api.OK {
			if got, at, code := parser.ParseType(text); !equalTypes(got, kind) || at != 0 || code != api.OK {
				t.Fatalf("ParseType(%q) = %+v, %d, %d, want %+v", text, got, at, code, kind)
			}
		}
	}
}

// TestP11_3Operators nests each operator in each kid of each operator.
func TestP11_3Operators(t *testing.T) {
	a := api.Expr{Op: api.OpName, Name: "a"}
	kids := func(op api.Op) []api.Expr {
		switch op {
		case api.OpNeg, api.OpNot:
			return []api.Expr{a}
		case api.OpCond:
			return []api.Expr{a, a, a}
		}
		return []api.Expr{a, a}
	}
	for outer := api.OpIndex; outer <= api.OpCond; outer++ {
		for inner := api.OpIndex; inner <= api.OpCond; inner++ {
			for i := range kids(outer) {
				if outer == api.OpIndex && i == 0 && inner != api.OpIndex {
					continue
				}
				e := api.Expr{Op: outer, Kids: kids(outer)}
				e.Kids[i] = api.Expr{Op: inner, Kids: kids(inner)}
				text, code := syntax.PrintExpr(e)
				if got, at, parsed := parser.ParseExpr(text); code != api.OK || !syntax.EqualExpr(got, e) || at != 0 || parsed != api.OK {
					t.Errorf("ParseExpr(%q) = %+v, %d, %d, want %+v", text, got, at, parsed, e)
				}
			}
		}
	}
}

func TestP11_4Parentheses(t *testing.T) {
	g := newGenerator(1141)
	for range 20000 {
		e := g.expr(1 + g.Intn(5))
		text := g.lay(g.wrapped(e, 0))
		if len(text) > api.MaxText {
			continue
		}
		if got, at, code := parser.ParseExpr(text); !syntax.EqualExpr(got, e) || at != 0 || code != api.OK {
			t.Fatalf("ParseExpr(%q) = %+v, %d, %d, want %+v", text, got, at, code, e)
		}
	}
}

// TestP11_4Everywhere puts parentheses around the expressions of programs.
func TestP11_4Everywhere(t *testing.T) {
	form := `secret s: array 4 of int[0..9];
hatch h: int[0..9] = E;
func f(a: bool): bool { s[E] = E; return E; }
begin
	s[E].x[E] = E;
	s[s[E]] = call f(E, E);
	s[E] = release h;
	output E;
	if E { output -E; } else { output min(E, max(E, E)); }
	while E limit 3 { output E ? E : E; }
	output a.b[E];
end`
	for _, e := range []string{"a", "1", "(a + b)", "(a ? b : c)", "(-a)", "s[1].x", "min(a, b)"} {
		want, at, code := parser.Parse(strings.ReplaceAll(form, "E", e))
		if at != 0 || code != api.OK {
			t.Fatalf("%s: %d, %d", e, at, code)
		}
		for _, wrap := range []string{"(%)", "((%))", "( ( (%) ) )", "(\n% # )\n)", strings.Repeat("(", 100) + "%" + strings.Repeat(")", 100)} {
			text := strings.ReplaceAll(form, "E", strings.ReplaceAll(wrap, "%", e))
			if got, at, code := parser.Parse(text); len(text) <= api.MaxText && (!syntax.Equal(got, want) || at != 0 || code != api.OK) {
				t.Errorf("%s in %q: %+v, %d, %d", e, wrap, got, at, code)
			}
		}
	}
}

func TestP11_4WhiteSpace(t *testing.T) {
	g := newGenerator(1142)
	for range 3000 {
		p := g.program()
		text, code := syntax.Print(p)
		if code != api.OK {
			continue
		}
		list, _, _ := lexer.Lex(text)
		var texts []string
		for _, token := range list {
			texts = append(texts, token.Text)
		}
		text = g.lay(texts)
		if got, at, code := parser.Parse(text); len(text) <= api.MaxText && (!syntax.Equal(got, p) || at != 0 || code != api.OK) {
			t.Fatalf("Parse(%q) = %+v, %d, %d, want %+v", text, got, at, code, p)
		}
	}
}

// parseAs parses a text that shall follow the rule.
func parseAs(rule, text string) (int, api.Code) {
	var at int
	var code api.Code
	switch rule {
	case "program":
		_, at, code = parser.Parse(text)
	case "expression":
		_, at, code = parser.ParseExpr(text)
	default:
		_, at, code = parser.ParseType(text)
	}
	return at, code
}

func TestP11_5Behind(t *testing.T) {
	g := newGenerator(1151)
	seen := map[string]int{}
	for range 20000 {
		rule := pick(g, "program", "expression", "type")
		text := strings.Join(g.disturb(g.disturb(g.texts(rule, 12))), " ")
		at, code := parseAs(rule, text)
		if code != api.ErrSyntax || at == len(text) {
			continue
		}
		seen[rule]++
		token, _, _ := strings.Cut(text[at:], " ")
		start := text[:at] + token
		for range 4 {
			other := start
			for range g.Intn(5) {
				other += " " + g.token()
			}
			if otherAt, otherCode := parseAs(rule, other); otherAt != at || otherCode != api.ErrSyntax {
				t.Fatalf("%q: %d, %q: %d, %d", text, at, other, otherAt, otherCode)
			}
		}
		// Without the token the text goes on in some way: it fails at its end, if at all.
		if otherAt, otherCode := parseAs(rule, text[:at]); otherCode == api.ErrSyntax && otherAt != at {
			t.Fatalf("%q: %d, without the token %d, %d", text, at, otherAt, otherCode)
		}
	}
	for _, rule := range []string{"program", "expression", "type"} {
		if seen[rule] < 1000 {
			t.Errorf("only %d texts for %s", seen[rule], rule)
		}
	}
}
