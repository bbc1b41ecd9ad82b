package parser_test

import (
	"math/rand"
	"strings"

	"keyhole/api"
	"keyhole/lexer"
)

// generator makes random texts and random trees.
type generator struct {
	*rand.Rand
}

func newGenerator(seed int64) generator {
	return generator{rand.New(rand.NewSource(seed))}
}

func pick[T any](g generator, list ...T) T {
	return list[g.Intn(len(list))]
}

func (g generator) name() string {
	return pick(g, "a", "b", "c", "x1", "z", "types", "abcdefghijkl", "a00000000001")
}

// spell returns texts of tokens for terminals of the grammar.
func (g generator) spell(terminals []string) []string {
	var list []string
	for _, terminal := range terminals {
		switch terminal {
		case "name":
			list = append(list, g.name())
		case "digits":
			list = append(list, pick(g, "0", "1", "2", "3", "7", "32", "33", "4095", "4096", "4097", "1048575", "1048576"))
		default:
			list = append(list, strings.Trim(terminal, `"`))
		}
	}
	return list
}

// texts returns texts of tokens that follow the rule.
func (g generator) texts(rule string, budget int) []string {
	return g.spell(language.derive(g.Rand, language.rules[rule], budget))
}

// token returns the text of any token.
func (g generator) token() string {
	return g.spell([]string{pick(g, language.terminals()...)})[0]
}

// disturb returns the texts with one of them left out, repeated, replaced, exchanged or added.
func (g generator) disturb(list []string) []string {
	at := g.Intn(len(list) + 1)
	before, behind := list[:at:at], list[at:]
	switch {
	case len(behind) == 0 || g.Intn(5) == 0:
		return append(append(before, g.token()), behind...)
	case g.Intn(4) == 0:
		return append(before, behind[1:]...)
	case g.Intn(3) == 0:
		return append(append(before, behind[0]), behind...)
	case g.Intn(2) == 0 && len(behind) > 1:
		return append(append(before, behind[1], behind[0]), behind[2:]...)
	}
	return append(append(before, g.token()), behind[1:]...)
}

// lay returns a text with the tokens, with white space and comments around them, sometimes with none where none is needed.
func (g generator) lay(list []string) string {
	var text strings.Builder
	last := ""
	for _, next := range list {
		if g.Intn(2) == 0 && apart(last, next) {
			text.WriteString(next)
		} else {
			text.WriteString(pick(g, " ", "\n", "\t", "  ", " # a == 1;\n", "\n\n\t", "#\n") + next)
		}
		last = next
	}
	return text.String() + pick(g, "", "", "\n", " ", "# end", " \t#\n#")
}

// apart reports whether two tokens remain two if nothing stands between them.
func apart(a, b string) bool {
	tokens, _, code := lexer.Lex(a + b)
	return code == api.OK && (a == "" || len(tokens) == 2 && tokens[0].Text == a)
}

// number returns a number of the language.
func (g generator) number() int {
	return pick(g, 0, 1, 2, 7, 10, 4095, 1<<20-1, 1<<20)
}

func (g generator) place(depth int) api.Expr {
	switch {
	case depth > 1 && g.Intn(3) == 0:
		return api.Expr{Op: api.OpField, Name: g.name(), Kids: []api.Expr{g.place(depth - 1)}}
	case depth > 1 && g.Intn(3) == 0:
		return api.Expr{Op: api.OpIndex, Kids: []api.Expr{g.place(depth - 1), g.expr(depth - 1)}}
	}
	return api.Expr{Op: api.OpName, Name: g.name()}
}

func (g generator) exprs(count, depth int) []api.Expr {
	var list []api.Expr
	for range count {
		list = append(list, g.expr(depth))
	}
	return list
}

// expr returns a well-formed expression of at most the depth.
func (g generator) expr(depth int) api.Expr {
	if depth <= 1 || g.Intn(6) == 0 {
		return pick(g, api.Expr{N: g.number()}, api.Expr{Op: api.OpTrue}, api.Expr{Op: api.OpFalse}, g.place(depth))
	}
	op := api.OpNeg + api.Op(g.Intn(int(api.OpCond-api.OpNeg)+1))
	kids := 2
	switch op {
	case api.OpNeg, api.OpNot:
		kids = 1
	case api.OpCond:
		kids = 3
	}
	return api.Expr{Op: op, Kids: g.exprs(kids, depth-1)}
}

// kind returns a well-formed type of at most the depth.
func (g generator) kind(depth int) api.Type {
	if depth > 1 && g.Intn(2) == 0 {
		if g.Intn(2) == 0 {
			return api.Type{Kind: api.TypeArray, Size: pick(g, 1, 2, 31, 32), Of: []api.Type{g.kind(depth - 1)}}
		}
		record := api.Type{Kind: api.TypeRecord}
		for range 1 + g.Intn(3) {
			record.Names = append(record.Names, g.name())
			record.Of = append(record.Of, g.kind(depth-1))
		}
		return record
	}
	a, b := pick(g, g.number(), -g.number()), pick(g, g.number(), -g.number())
	return pick(g, api.Type{}, api.Type{Kind: api.TypeInt, Low: min(a, b), High: max(a, b)}, api.Type{Kind: api.TypeName, Name: g.name()})
}

func (g generator) stmts(count, depth int) []api.Stmt {
	var list []api.Stmt
	for range count {
		list = append(list, g.stmt(depth))
	}
	return list
}

// stmt returns a well-formed statement of at most the nesting.
func (g generator) stmt(depth int) api.Stmt {
	var then, otherwise []api.Stmt
	if depth > 1 {
		then, otherwise = g.stmts(g.Intn(3), depth-1), g.stmts(g.Intn(3), depth-1)
	}
	low := pick(g, -1<<20, -5, 0, 3, 1<<20-4095)
	numbers := []int{g.Intn(3)}
	for range g.Intn(4) {
		numbers = append(numbers, numbers[len(numbers)-1]+1+g.Intn(1<<17))
	}
	return pick(g,
		api.Stmt{Place: g.place(3), Value: g.expr(4)},
		api.Stmt{Verb: api.CallStmt, Place: g.place(3), Name: g.name(), Args: g.exprs(g.Intn(3), 3)},
		api.Stmt{Verb: api.ReleaseStmt, Place: g.place(3), Name: g.name()},
		api.Stmt{Verb: api.OutputStmt, Value: g.expr(4)},
		api.Stmt{Verb: api.WaitStmt, N: g.number()},
		api.Stmt{Verb: api.IfStmt, Value: g.expr(3), Then: then, Else: otherwise},
		api.Stmt{Verb: api.WhileStmt, Value: g.expr(3), N: pick(g, 0, 1, 4095, 4096), Then: then},
		api.Stmt{Verb: api.ForStmt, Name: g.name(), Low: low, High: low + pick(g, 0, 1, 4095), Then: then},
		api.Stmt{Verb: api.SettleStmt, Numbers: numbers})
}

func (g generator) variable() api.Decl {
	d := api.Decl{Kind: api.VarDecl, Name: g.name(), Type: g.kind(3), Init: pick(g, 0, g.number(), -g.number())}
	if d.Type.Kind == api.TypeBool {
		d.Init = g.Intn(2)
	}
	return d
}

// decl returns a well-formed declaration.
func (g generator) decl() api.Decl {
	switch kind := api.DeclKind(g.Intn(7)); kind {
	case api.VarDecl:
		return g.variable()
	case api.HatchDecl:
		return api.Decl{Kind: kind, Name: g.name(), Type: g.kind(3), Value: g.expr(4)}
	case api.FuncDecl:
		d := api.Decl{Kind: kind, Name: g.name(), Type: g.kind(2), Value: g.expr(3), Body: g.stmts(g.Intn(3), 2)}
		for range g.Intn(3) {
			param := g.variable()
			param.Init = 0
			d.Params = append(d.Params, param)
		}
		for range g.Intn(3) {
			d.Vars = append(d.Vars, g.variable())
		}
		return d
	default:
		return api.Decl{Kind: kind, Name: g.name(), Type: g.kind(3)}
	}
}

// program returns a well-formed program.
func (g generator) program() api.Program {
	var p api.Program
	for range g.Intn(5) {
		p.Decls = append(p.Decls, g.decl())
	}
	p.Body = g.stmts(g.Intn(4), 3)
	return p
}

// bindings are the signs of the operators with one or two kids, how tightly they bind, and how tightly their kids must bind.
var bindings = map[api.Op]struct {
	sign  string
	level int
	needs []int
}{
	api.OpOr: {"||", 1, []int{1, 2}}, api.OpAnd: {"&&", 2, []int{2, 3}},
	api.OpEq: {"==", 3, []int{4, 4}}, api.OpNe: {"!=", 3, []int{4, 4}}, api.OpLt: {"<", 3, []int{4, 4}},
	api.OpLe: {"<=", 3, []int{4, 4}}, api.OpGt: {">", 3, []int{4, 4}}, api.OpGe: {">=", 3, []int{4, 4}},
	api.OpAdd: {"+", 4, []int{4, 5}}, api.OpSub: {"-", 4, []int{4, 5}},
	api.OpMul: {"*", 5, []int{5, 6}}, api.OpDiv: {"/", 5, []int{5, 6}}, api.OpMod: {"%", 5, []int{5, 6}},
	api.OpNeg: {"-", 6, []int{6}}, api.OpNot: {"!", 6, []int{6}},
}

// wrapped returns tokens of e, with all parentheses that it needs to bind as tightly as needed, and with some that it does
// not need.
func (g generator) wrapped(e api.Expr, need int) []string {
	level, list := g.bare(e)
	for level < need || g.Intn(3) == 0 {
		list = append(append([]string{"("}, list...), ")")
		level = 7
	}
	return list
}

// bare returns how tightly e binds, and tokens of it that are not in parentheses as a whole.
func (g generator) bare(e api.Expr) (int, []string) {
	var list []string
	add := func(parts ...[]string) { list = append(list, flat(parts)...) }
	b := bindings[e.Op]
	switch {
	case len(b.needs) == 2:
		add(g.wrapped(e.Kids[0], b.needs[0]), []string{b.sign}, g.wrapped(e.Kids[1], b.needs[1]))
		return b.level, list
	case len(b.needs) == 1:
		add([]string{b.sign}, g.wrapped(e.Kids[0], b.needs[0]))
		return b.level, list
	case e.Op == api.OpCond:
		add(g.wrapped(e.Kids[0], 1), []string{"?"}, g.wrapped(e.Kids[1], 0), []string{":"}, g.wrapped(e.Kids[2], 0))
		return 0, list
	case e.Op == api.OpMin, e.Op == api.OpMax:
		add([]string{map[api.Op]string{api.OpMin: "min", api.OpMax: "max"}[e.Op], "("}, g.wrapped(e.Kids[0], 0), []string{","}, g.wrapped(e.Kids[1], 0), []string{")"})
	case e.Op == api.OpField:
		_, place := g.bare(e.Kids[0])
		add(place, []string{".", e.Name})
	case e.Op == api.OpIndex:
		_, place := g.bare(e.Kids[0])
		add(place, []string{"["}, g.wrapped(e.Kids[1], 0), []string{"]"})
	default:
		add([]string{leaf(e)})
	}
	return 7, list
}

func flat(parts [][]string) []string {
	var list []string
	for _, part := range parts {
		list = append(list, part...)
	}
	return list
}
