package syntax_test

import (
	"strconv"
	"strings"
	"testing"

	"keyhole/api"
	"keyhole/lexer"
	"keyhole/syntax"
)

// writing is the line of the chapter about an operator: its sign, its level, and the levels that its kids need.
type writing struct {
	pattern string // with 0, 1 and 2 for the kids
	level   int
	needs   string
}

func writings() map[api.Op]writing {
	table := map[api.Op]writing{
		api.OpIndex: {"0[1]", 7, "00"}, api.OpNeg: {"-0", 6, "6"}, api.OpNot: {"!0", 6, "6"}, api.OpCond: {"0 ? 1 : 2", 0, "100"},
		api.OpMin: {"min(0, 1)", 7, "00"}, api.OpMax: {"max(0, 1)", 7, "00"}, api.OpOr: {"0 || 1", 1, "12"}, api.OpAnd: {"0 && 1", 2, "23"},
		api.OpAdd: {"0 + 1", 4, "45"}, api.OpSub: {"0 - 1", 4, "45"}, api.OpMul: {"0 * 1", 5, "56"}, api.OpDiv: {"0 / 1", 5, "56"}, api.OpMod: {"0 % 1", 5, "56"},
	}
	for op, sign := range map[api.Op]string{api.OpEq: "==", api.OpNe: "!=", api.OpLt: "<", api.OpLe: "<=", api.OpGt: ">", api.OpGe: ">="} {
		table[op] = writing{"0 " + sign + " 1", 3, "44"}
	}
	return table
}

// exprText returns the canonical text of a well-formed expression, and its level.
func exprText(table map[api.Op]writing, e api.Expr) (string, int) {
	switch e.Op {
	case api.OpLit:
		return strconv.Itoa(e.N), 7
	case api.OpTrue:
		return "true", 7
	case api.OpFalse:
		return "false", 7
	case api.OpName:
		return e.Name, 7
	case api.OpField:
		place, _ := exprText(table, e.Kids[0])
		return place + "." + e.Name, 7
	}
	w := table[e.Op]
	var text strings.Builder
	for _, sign := range w.pattern {
		if sign < '0' || sign > '2' {
			text.WriteRune(sign)
			continue
		}
		kid, level := exprText(table, e.Kids[sign-'0'])
		if level < int(w.needs[sign-'0']-'0') {
			kid = "(" + kid + ")"
		}
		text.WriteString(kid)
	}
	return text.String(), w.level
}

func modelExpr(e api.Expr) string {
	text, _ := exprText(writings(), e)
	return text
}

func modelType(t api.Type) string {
	switch t.Kind {
	case api.TypeInt:
		return "int[" + strconv.Itoa(t.Low) + ".." + strconv.Itoa(t.High) + "]"
	case api.TypeArray:
		return "array " + strconv.Itoa(t.Size) + " of " + modelType(t.Of[0])
	case api.TypeRecord:
		text := ""
		for i, name := range t.Names {
			text += ", " + name + ": " + modelType(t.Of[i])
		}
		return "record {" + text[2:] + "}"
	case api.TypeName:
		return t.Name
	}
	return "bool"
}

func modelStmts(list []api.Stmt, tabs string) string {
	text := ""
	for _, s := range list {
		text += tabs + modelStmt(s, tabs) + "\n"
	}
	return text
}

// modelStmt returns the text of a statement without the first tabs and the last line feed.
func modelStmt(s api.Stmt, tabs string) string {
	place, value, then := modelExpr(s.Place), modelExpr(s.Value), modelStmts(s.Then, tabs+"\t")
	switch s.Verb {
	case api.SetStmt:
		return place + " = " + value + ";"
	case api.CallStmt:
		var args []string
		for _, a := range s.Args {
			args = append(args, modelExpr(a))
		}
		return place + " = call " + s.Name + "(" + strings.Join(args, ", ") + ");"
	case api.ReleaseStmt:
		return place + " = release " + s.Name + ";"
	case api.OutputStmt:
		return "output " + value + ";"
	case api.WaitStmt:
		return "wait " + strconv.Itoa(s.N) + ";"
	case api.IfStmt:
		if len(s.Else) == 0 {
			return "if " + value + " {\n" + then + tabs + "}"
		}
		return "if " + value + " {\n" + then + tabs + "} else {\n" + modelStmts(s.Else, tabs+"\t") + tabs + "}"
	case api.WhileStmt:
		return "while " + value + " limit " + strconv.Itoa(s.N) + " {\n" + then + tabs + "}"
	case api.ForStmt:
		return "for " + s.Name + " = " + strconv.Itoa(s.Low) + " to " + strconv.Itoa(s.High) + " {\n" + then + tabs + "}"
	}
	text := "settle"
	for i, n := range s.Numbers {
		text += []string{",", ""}[max(0, 1-i)] + " " + strconv.Itoa(n)
	}
	return text + ";"
}

func modelDecl(d api.Decl, tabs string) string {
	kind := modelType(d.Type)
	switch d.Kind {
	case api.TypeDecl:
		return tabs + "type " + d.Name + " = " + kind + ";\n"
	case api.HatchDecl:
		return tabs + "hatch " + d.Name + ": " + kind + " = " + modelExpr(d.Value) + ";\n"
	case api.VarDecl:
		init := " = " + strconv.Itoa(d.Init)
		if d.Type.Kind == api.TypeBool {
			init = " = true"
		}
		if d.Init == 0 {
			init = ""
		}
		return tabs + "var " + d.Name + ": " + kind + init + ";\n"
	case api.FuncDecl:
		var params []string
		for _, param := range d.Params {
			params = append(params, param.Name+": "+modelType(param.Type))
		}
		text := tabs + "func " + d.Name + "(" + strings.Join(params, ", ") + "): " + kind + " {\n"
		for _, v := range d.Vars {
			text += modelDecl(v, tabs+"\t")
		}
		return text + modelStmts(d.Body, tabs+"\t") + tabs + "\treturn " + modelExpr(d.Value) + ";\n" + tabs + "}\n"
	}
	return tabs + map[api.DeclKind]string{api.SecretDecl: "secret ", api.PublicDecl: "public ", api.RandomDecl: "random "}[d.Kind] + d.Name + ": " + kind + ";\n"
}

func modelProgram(p api.Program) string {
	text := ""
	for _, d := range p.Decls {
		text += modelDecl(d, "")
	}
	return text + "begin\n" + modelStmts(p.Body, "\t") + "end\n"
}

// expectText fails unless a function of the package has returned the text, or the error.
func expectText(t *testing.T, of any, got string, gotCode api.Code, code api.Code, want func() string) {
	t.Helper()
	text := ""
	if code == api.OK {
		if text = want(); len(text) > 8192 {
			text, code = "", api.ErrLong
		}
	}
	if got != text || gotCode != code {
		t.Fatalf("%+v is printed as\n%s, %d, want\n%s, %d", of, got, gotCode, text, code)
	}
}

func expectPrint(t *testing.T, p api.Program) {
	t.Helper()
	text, code := syntax.Print(p)
	expectText(t, p, text, code, check(p), func() string { return modelProgram(p) })
}

func expectPrintExpr(t *testing.T, e api.Expr) {
	t.Helper()
	text, code := syntax.PrintExpr(e)
	expectText(t, e, text, code, checkExpr(e), func() string { return modelExpr(e) })
}

func expectPrintType(t *testing.T, kind api.Type) {
	t.Helper()
	text, code := syntax.PrintType(kind)
	expectText(t, kind, text, code, checkType(kind), func() string { return modelType(kind) })
}

func TestP10_2Print(t *testing.T) {
	g := newGenerator(103)
	for range 3000 {
		p := g.program()
		expectPrint(t, p)
		p = clone(p, true)
		g.mutate(&p)
		expectPrint(t, p)
	}
}

func TestP10_2PrintExprAndType(t *testing.T) {
	g := newGenerator(104)
	for range 10000 {
		e, kind := g.expr(6), g.kind(4)
		expectPrintExpr(t, e)
		expectPrintType(t, kind)
		g.mutate(&e)
		g.mutate(&kind)
		expectPrintExpr(t, e)
		expectPrintType(t, kind)
	}
}

// allOps calls check for an expression with each operator, whose kids are the given ones.
func allOps(kids func(op api.Op, count int) [][]api.Expr, visit func(e api.Expr)) {
	for op := api.OpField; op <= api.OpCond; op++ {
		count := 2
		switch op {
		case api.OpField, api.OpNeg, api.OpNot:
			count = 1
		case api.OpCond:
			count = 3
		}
		for _, list := range kids(op, count) {
			name := ""
			if op == api.OpField {
				name = "f"
			}
			visit(api.Expr{Op: op, Name: name, Kids: list})
		}
	}
}

// pairs returns all well-formed expressions of an operator among whose kids is at most one other operator.
func pairs() []api.Expr {
	leaf := api.Expr{Op: api.OpName, Name: "a"}
	var inner, result []api.Expr
	plain := func(_ api.Op, count int) [][]api.Expr {
		return [][]api.Expr{append([]api.Expr{leaf, leaf}[:min(count, 2)], []api.Expr{leaf}[:max(0, count-2)]...)}
	}
	allOps(plain, func(e api.Expr) { inner = append(inner, e) })
	inner = append(inner, api.Expr{}, api.Expr{N: 1 << 20}, api.Expr{Op: api.OpTrue}, api.Expr{Op: api.OpFalse}, leaf)
	allOps(func(_ api.Op, count int) [][]api.Expr {
		var lists [][]api.Expr
		for k := range count {
			for _, e := range inner {
				list := []api.Expr{leaf, leaf, leaf}[:count]
				list = append([]api.Expr(nil), list...)
				list[k] = e
				lists = append(lists, list)
			}
		}
		return lists
	}, func(e api.Expr) {
		if checkExpr(e) == api.OK {
			result = append(result, e)
		}
	})
	return append(result, inner...)
}

func TestP10_2Operators(t *testing.T) {
	for _, e := range pairs() {
		expectPrintExpr(t, e)
		for _, outer := range []api.Op{api.OpNeg, api.OpNot} {
			expectPrintExpr(t, api.Expr{Op: outer, Kids: []api.Expr{e}})
		}
	}
}

// TestP10_2Long prints texts of about MaxText bytes.
func TestP10_2Long(t *testing.T) {
	long := strings.Repeat("a", 12)
	for n := 3; n <= 12; n++ {
		name := api.Expr{Op: api.OpName, Name: long[:n]}
		for count := 300; count <= 1000; count++ {
			length := count*(n+10) + len("begin\nend\n")
			if length < 8160 || length > 8220 {
				continue
			}
			var p api.Program
			for range count {
				p.Body = append(p.Body, api.Stmt{Verb: api.OutputStmt, Value: name})
			}
			expectPrint(t, p)
		}
	}
	record := func(count int, last string) api.Type {
		kind := api.Type{Kind: api.TypeRecord}
		for i := range count {
			name := long
			if i == count-1 {
				name = last
			}
			kind.Names, kind.Of = append(kind.Names, name), append(kind.Of, api.Type{Kind: api.TypeName, Name: long})
		}
		return kind
	}
	codes := map[api.Code]bool{}
	for count := 1; count <= 30; count++ {
		for n := 1; n <= 12; n++ {
			kind := api.Type{Kind: api.TypeRecord, Names: []string{"last"}, Of: []api.Type{record(count, long[:n])}}
			for range 9 {
				kind.Names, kind.Of = append(kind.Names, "a"), append(kind.Of, record(30, long))
			}
			if length := len(modelType(kind)); length > 8180 && length < 8210 {
				expectPrintType(t, kind)
				_, code := syntax.PrintType(kind)
				codes[code] = true
			}
		}
	}
	if !codes[api.OK] || !codes[api.ErrLong] {
		t.Errorf("codes %v", codes)
	}
}

// least returns the least of count leaves as a tree of little depth; the first negated ones of them have a minus sign.
func least(count int, leaf api.Expr, negated int) api.Expr {
	if count == 1 {
		if negated > 0 {
			return api.Expr{Op: api.OpNeg, Kids: []api.Expr{leaf}}
		}
		return leaf
	}
	half := count / 2
	return api.Expr{Op: api.OpMin, Kids: []api.Expr{least(half, leaf, negated), least(count-half, leaf, negated-half)}}
}

func TestP10_2LongBorder(t *testing.T) {
	codes := map[api.Code]bool{}
	for negated := range 60 {
		e := least(431, api.Expr{Op: api.OpName, Name: "abcdefghijkl"}, negated)
		expectPrintExpr(t, e)
		_, code := syntax.PrintExpr(e)
		codes[code] = true
		length := len(modelExpr(e))
		if negated == 0 && (length > 8192 || length < 8192-20) {
			t.Fatalf("the shortest text has %d bytes", length)
		}
	}
	if !codes[api.OK] || !codes[api.ErrLong] {
		t.Errorf("codes %v", codes)
	}
}

func TestP10_3Expressions(t *testing.T) {
	byText := map[string]api.Expr{}
	visit := func(e api.Expr) {
		text, code := syntax.PrintExpr(e)
		if code != api.OK {
			t.Fatalf("PrintExpr(%+v): %d", e, code)
		}
		if other, known := byText[text]; known && !same(other, e) {
			t.Fatalf("%+v and %+v have the text %q", e, other, text)
		}
		byText[text] = e
	}
	list := pairs()
	for i, e := range list {
		visit(e)
		if i%12 == 0 {
			for _, other := range list {
				visit(api.Expr{Op: api.OpSub, Kids: []api.Expr{e, other}})
				visit(api.Expr{Op: api.OpAnd, Kids: []api.Expr{other, e}})
			}
		}
	}
	g := newGenerator(105)
	for range 20000 {
		visit(g.expr(4))
	}
}

func TestP10_3Programs(t *testing.T) {
	g := newGenerator(106)
	equal := 0
	for range 4000 {
		p := g.program()
		q := clone(p, true)
		g.mutate(&q)
		first, _ := syntax.Print(p)
		second, code := syntax.Print(q)
		if code != api.OK {
			continue
		}
		if (first == second) != same(p, q) {
			t.Fatalf("%+v and %+v have the texts\n%s and\n%s", p, q, first, second)
		}
		if first == second {
			equal++
		}
	}
	if equal < 20 {
		t.Errorf("only %d equal programs", equal)
	}
}

// TestP10_2Tokens checks that a text consists of tokens.
func TestP10_2Tokens(t *testing.T) {
	g := newGenerator(107)
	for range 1000 {
		text, code := syntax.Print(g.program())
		if code != api.OK {
			continue
		}
		if _, _, code := lexer.Lex(text); code != api.OK {
			t.Fatalf("%q: %d", text, code)
		}
	}
}

func TestExamples(t *testing.T) {
	name := func(s string) api.Expr { return api.Expr{Op: api.OpName, Name: s} }
	two := func(op api.Op, a, b api.Expr) api.Expr { return api.Expr{Op: op, Kids: []api.Expr{a, b}} }
	negated := api.Expr{Op: api.OpNeg, Kids: []api.Expr{name("x")}}
	for text, e := range map[string]api.Expr{
		"(1 + 2) * -x": two(api.OpMul, two(api.OpAdd, api.Expr{N: 1}, api.Expr{N: 2}), negated),
		"a - (b - c)":  two(api.OpSub, name("a"), two(api.OpSub, name("b"), name("c"))),
		"a - b - c":    two(api.OpSub, two(api.OpSub, name("a"), name("b")), name("c")),
	} {
		if got, code := syntax.PrintExpr(e); got != text || code != api.OK {
			t.Errorf("%q, %d, want %q", got, code, text)
		}
	}
	p := api.Program{
		Decls: []api.Decl{{Kind: api.SecretDecl, Name: "pin", Type: api.Type{Kind: api.TypeInt, High: 9}}, {Kind: api.VarDecl, Name: "x", Init: 1}},
		Body:  []api.Stmt{{Verb: api.OutputStmt, Value: name("pin")}},
	}
	text, code := syntax.Print(p)
	if text != "secret pin: int[0..9];\nvar x: bool = true;\nbegin\n\toutput pin;\nend\n" || code != api.OK {
		t.Errorf("%q, %d", text, code)
	}
	if size, code := syntax.Size(p); size != 6 || code != api.OK {
		t.Errorf("Size = %d, %d", size, code)
	}
	literal := api.Program{Body: []api.Stmt{{Place: api.Expr{N: 1}}}}
	if code := syntax.Check(literal); code != api.ErrArgument {
		t.Errorf("a literal as a place: %d", code)
	}
	if code := syntax.CheckExpr(api.Expr{N: -1}); code != api.ErrRange {
		t.Errorf("the literal -1: %d", code)
	}
}

// TestP10_2Whole prints a program with every kind of declaration and statement.
func TestP10_2Whole(t *testing.T) {
	name := func(s string) api.Expr { return api.Expr{Op: api.OpName, Name: s} }
	digit := api.Type{Kind: api.TypeInt, Low: -3, High: 9}
	wait := []api.Stmt{{Verb: api.WaitStmt, N: 5}}
	p := api.Program{
		Decls: []api.Decl{
			{Kind: api.TypeDecl, Name: "t", Type: api.Type{Kind: api.TypeRecord, Names: []string{"a", "b"}, Of: []api.Type{{}, {Kind: api.TypeArray, Size: 2, Of: []api.Type{digit}}}}},
			{Kind: api.SecretDecl, Name: "s", Type: api.Type{Kind: api.TypeName, Name: "t"}},
			{Kind: api.PublicDecl, Name: "p"},
			{Kind: api.RandomDecl, Name: "r", Type: digit},
			{Kind: api.VarDecl, Name: "v", Type: digit, Init: -2},
			{Kind: api.VarDecl, Name: "w", Type: digit},
			{Kind: api.HatchDecl, Name: "h", Value: api.Expr{Op: api.OpFalse}},
			{Kind: api.FuncDecl, Name: "f", Type: digit, Params: []api.Decl{{Kind: api.VarDecl, Name: "a", Type: digit}, {Kind: api.VarDecl, Name: "b"}},
				Vars: []api.Decl{{Kind: api.VarDecl, Name: "c", Init: 1}}, Body: wait, Value: name("a")},
			{Kind: api.FuncDecl, Name: "g"},
		},
		Body: []api.Stmt{
			{Place: name("v"), Value: api.Expr{Op: api.OpMax, Kids: []api.Expr{name("r"), {}}}},
			{Verb: api.CallStmt, Place: name("v"), Name: "f", Args: []api.Expr{name("r"), {Op: api.OpTrue}}},
			{Verb: api.CallStmt, Place: name("v"), Name: "g"},
			{Verb: api.ReleaseStmt, Place: name("p"), Name: "h"},
			{Verb: api.IfStmt, Value: name("p"), Then: wait, Else: []api.Stmt{{Verb: api.IfStmt, Value: name("p")}}},
			{Verb: api.WhileStmt, Value: name("p"), N: 3},
			{Verb: api.ForStmt, Name: "i", Low: -1, High: 1, Then: wait},
			{Verb: api.SettleStmt, Numbers: []int{4, 10}},
			{Verb: api.SettleStmt, Numbers: []int{0}},
		},
	}
	want := `type t = record {a: bool, b: array 2 of int[-3..9]};
secret s: t;
public p: bool;
random r: int[-3..9];
var v: int[-3..9] = -2;
var w: int[-3..9];
hatch h: bool = false;
func f(a: int[-3..9], b: bool): int[-3..9] {
	var c: bool = true;
	wait 5;
	return a;
}
func g(): bool {
	return 0;
}
begin
	v = max(r, 0);
	v = call f(r, true);
	v = call g();
	p = release h;
	if p {
		wait 5;
	} else {
		if p {
		}
	}
	while p limit 3 {
	}
	for i = -1 to 1 {
		wait 5;
	}
	settle 4, 10;
	settle 0;
end
`
	if got, code := syntax.Print(p); got != want || code != api.OK {
		t.Errorf("%s, %d", got, code)
	}
	if got, code := syntax.Print(api.Program{}); got != "begin\nend\n" || code != api.OK {
		t.Errorf("%q, %d", got, code)
	}
}
