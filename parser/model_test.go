package parser_test

import (
	"slices"
	"strconv"

	"keyhole/api"
	"keyhole/syntax"
)

// The functions of this file return the trees of tokens that follow the grammar. They divide lists of tokens at the signs
// that bind least, so that they work otherwise than a descent. They panic if the tokens do not follow the grammar.

// tokens is a list of texts of tokens.
type tokens []string

// deep returns how many brackets are open before each token.
func (l tokens) deep() []int {
	levels := make([]int, len(l))
	level := 0
	for i, text := range l {
		switch text {
		case ")", "]", "}":
			level--
		}
		levels[i] = level
		switch text {
		case "(", "[", "{":
			level++
		}
	}
	return levels
}

// first returns the index of the first of the given texts outside of brackets, or -1.
func (l tokens) first(texts ...string) int {
	for i, level := range l.deep() {
		if level == 0 && slices.Contains(texts, l[i]) {
			return i
		}
	}
	return -1
}

// lastOperator returns the index of the last of the given signs outside of brackets that stands behind an operand, or -1.
func (l tokens) lastOperator(signs ...string) int {
	found := -1
	for i, level := range l.deep() {
		if level == 0 && slices.Contains(signs, l[i]) && i > 0 && isOperandEnd(l[i-1]) {
			found = i
		}
	}
	return found
}

func isOperandEnd(text string) bool {
	last := text[len(text)-1]
	return last >= 'a' && last <= 'z' || last >= '0' && last <= '9' || last == ')' || last == ']'
}

// divided returns the parts between the given texts outside of brackets; no part if l is empty.
func (l tokens) divided(text string) []tokens {
	if len(l) == 0 {
		return nil
	}
	at := l.first(text)
	if at < 0 {
		return []tokens{l}
	}
	return append([]tokens{l[:at]}, l[at+1:].divided(text)...)
}

func integerOf(l tokens) int {
	if l[0] == "-" {
		return -integerOf(l[1:])
	}
	n, err := strconv.Atoi(l[0])
	if err != nil || len(l) != 1 {
		panic("no integer")
	}
	return n
}

var levels = []struct {
	signs []string
	ops   []api.Op
}{
	{[]string{"||"}, []api.Op{api.OpOr}},
	{[]string{"&&"}, []api.Op{api.OpAnd}},
	{[]string{"==", "!=", "<", "<=", ">", ">="}, []api.Op{api.OpEq, api.OpNe, api.OpLt, api.OpLe, api.OpGt, api.OpGe}},
	{[]string{"+", "-"}, []api.Op{api.OpAdd, api.OpSub}},
	{[]string{"*", "/", "%"}, []api.Op{api.OpMul, api.OpDiv, api.OpMod}},
}

func exprOf(l tokens) api.Expr {
	if at := l.first("?"); at >= 0 {
		open, colon := 1, at
		for levels := l.deep(); open > 0; {
			colon++
			switch {
			case levels[colon] == 0 && l[colon] == "?":
				open++
			case levels[colon] == 0 && l[colon] == ":":
				open--
			}
		}
		return api.Expr{Op: api.OpCond, Kids: []api.Expr{exprOf(l[:at]), exprOf(l[at+1 : colon]), exprOf(l[colon+1:])}}
	}
	for _, level := range levels {
		if at := l.lastOperator(level.signs...); at >= 0 {
			op := level.ops[slices.Index(level.signs, l[at])]
			return api.Expr{Op: op, Kids: []api.Expr{exprOf(l[:at]), exprOf(l[at+1:])}}
		}
	}
	return operandOf(l)
}

func operandOf(l tokens) api.Expr {
	n := len(l)
	switch {
	case l[0] == "-":
		return api.Expr{Op: api.OpNeg, Kids: []api.Expr{exprOf(l[1:])}}
	case l[0] == "!":
		return api.Expr{Op: api.OpNot, Kids: []api.Expr{exprOf(l[1:])}}
	case l[0] == "(":
		return exprOf(l[1 : n-1])
	case l[0] == "min" || l[0] == "max":
		kids := l[2 : n-1].divided(",")
		return api.Expr{Op: api.OpMin + api.Op(slices.Index([]string{"min", "max"}, l[0])), Kids: []api.Expr{exprOf(kids[0]), exprOf(kids[1])}}
	case l[0] == "true":
		return api.Expr{Op: api.OpTrue}
	case l[0] == "false":
		return api.Expr{Op: api.OpFalse}
	case l[0][0] <= '9':
		return api.Expr{N: integerOf(l)}
	case n == 1:
		return api.Expr{Op: api.OpName, Name: l[0]}
	case l[n-2] == ".":
		return api.Expr{Op: api.OpField, Name: l[n-1], Kids: []api.Expr{operandOf(l[:n-2])}}
	}
	open := n - 2
	for levels := l.deep(); levels[open] > 0 || l[open] != "["; {
		open--
	}
	return api.Expr{Op: api.OpIndex, Kids: []api.Expr{operandOf(l[:open]), exprOf(l[open+1 : n-1])}}
}

func typeOf(l tokens) api.Type {
	switch l[0] {
	case "bool":
		return api.Type{}
	case "int":
		dots := slices.Index(l, "..")
		return api.Type{Kind: api.TypeInt, Low: integerOf(l[2:dots]), High: integerOf(l[dots+1 : len(l)-1])}
	case "array":
		of := slices.Index(l, "of")
		return api.Type{Kind: api.TypeArray, Size: integerOf(l[1:of]), Of: []api.Type{typeOf(l[of+1:])}}
	case "record":
		t := api.Type{Kind: api.TypeRecord}
		for _, component := range l[2 : len(l)-1].divided(",") {
			t.Names = append(t.Names, component[0])
			t.Of = append(t.Of, typeOf(component[2:]))
		}
		return t
	}
	return api.Type{Kind: api.TypeName, Name: l[0]}
}

func stmtsOf(l tokens) []api.Stmt {
	var list []api.Stmt
	for len(l) > 0 {
		var s api.Stmt
		switch l[0] {
		case "if", "while", "for":
			s, l = blockOf(l)
		default:
			end := l.first(";")
			s, l = simpleOf(l[:end]), l[end+1:]
		}
		list = append(list, s)
	}
	return list
}

// braced returns what stands before, in and behind the first braces.
func braced(l tokens) (head, within, rest tokens) {
	open, end := l.first("{"), l.first("}")
	return l[:open], l[open+1 : end], l[end+1:]
}

func blockOf(l tokens) (api.Stmt, tokens) {
	head, within, rest := braced(l)
	body := stmtsOf(within)
	switch head[0] {
	case "if":
		s := api.Stmt{Verb: api.IfStmt, Value: exprOf(head[1:]), Then: body}
		if len(rest) > 0 && rest[0] == "else" {
			_, within, rest = braced(rest)
			s.Else = stmtsOf(within)
		}
		return s, rest
	case "while":
		limit := head.first("limit")
		return api.Stmt{Verb: api.WhileStmt, Value: exprOf(head[1:limit]), N: integerOf(head[limit+1:]), Then: body}, rest
	}
	to := head.first("to")
	return api.Stmt{Verb: api.ForStmt, Name: head[1], Low: integerOf(head[3:to]), High: integerOf(head[to+1:]), Then: body}, rest
}

func simpleOf(l tokens) api.Stmt {
	switch l[0] {
	case "output":
		return api.Stmt{Verb: api.OutputStmt, Value: exprOf(l[1:])}
	case "wait":
		return api.Stmt{Verb: api.WaitStmt, N: integerOf(l[1:])}
	case "settle":
		s := api.Stmt{Verb: api.SettleStmt}
		for _, number := range l[1:].divided(",") {
			s.Numbers = append(s.Numbers, integerOf(number))
		}
		return s
	}
	sign := l.first("=")
	s := api.Stmt{Place: operandOf(l[:sign])}
	switch value := l[sign+1:]; value[0] {
	case "call":
		s.Verb, s.Name = api.CallStmt, value[1]
		for _, argument := range value[3 : len(value)-1].divided(",") {
			s.Args = append(s.Args, exprOf(argument))
		}
	case "release":
		s.Verb, s.Name = api.ReleaseStmt, value[1]
	default:
		s.Value = exprOf(value)
	}
	return s
}

func programOf(l tokens) api.Program {
	begin := slices.Index(l, "begin")
	return api.Program{Decls: declsOf(l[:begin]), Body: stmtsOf(l[begin+1 : len(l)-1])}
}

func declsOf(l tokens) []api.Decl {
	var list []api.Decl
	for len(l) > 0 {
		end := l.first(";")
		if l[0] == "func" {
			// The braces of types do not contain the word return, and expressions have no braces.
			end = slices.Index(l, "return")
			end += slices.Index(l[end:], "}")
		}
		list = append(list, declOf(l[:end]))
		l = l[end+1:]
	}
	return list
}

func declOf(l tokens) api.Decl {
	if l[0] == "func" {
		return functionOf(l)
	}
	kind := api.DeclKind(slices.Index([]string{"type", "secret", "public", "random", "var", "hatch"}, l[0]))
	d := api.Decl{Kind: kind, Name: l[1]}
	sign := l[3:].first("=")
	if sign < 0 {
		d.Type = typeOf(l[3:])
		return d
	}
	d.Type = typeOf(l[3 : 3+sign])
	switch value := l[3+sign+1:]; {
	case kind == api.HatchDecl:
		d.Value = exprOf(value)
	case value[0] == "true":
		d.Init = 1
	case value[0] != "false":
		d.Init = integerOf(value)
	}
	return d
}

// functionOf returns the function with the tokens but for the last brace.
func functionOf(l tokens) api.Decl {
	d := api.Decl{Kind: api.FuncDecl, Name: l[1]}
	closing := l.first(")")
	for _, param := range l[3:closing].divided(",") {
		d.Params = append(d.Params, api.Decl{Kind: api.VarDecl, Name: param[0], Type: typeOf(param[2:])})
	}
	open := slices.Index(l, "return")
	for levels := l.deep(); levels[open] > 0 || l[open] != "{"; {
		open--
	}
	d.Type = typeOf(l[closing+2 : open])
	body := l[open+1:]
	result := body.first("return")
	d.Value = exprOf(body[result+1 : len(body)-1])
	body = body[:result]
	for len(body) > 0 && body[0] == "var" {
		end := body.first(";")
		d.Vars = append(d.Vars, declOf(body[:end]))
		body = body[end+1:]
	}
	d.Body = stmtsOf(body)
	return d
}

// model returns what the chapter says of a text that shall follow the rule.
func model[T any](rule string, tree func(tokens) T, check func(T) api.Code, text string) (T, int, api.Code) {
	var none T
	list, at, code := language.judge(rule, text)
	if code != api.OK {
		return none, at, code
	}
	var texts tokens
	for _, token := range list {
		texts = append(texts, token.Text)
	}
	found := tree(texts)
	if code := check(found); code != api.OK {
		return none, 0, code
	}
	return found, 0, api.OK
}

func modelProgram(text string) (api.Program, int, api.Code) {
	return model("program", programOf, syntax.Check, text)
}

func modelExpr(text string) (api.Expr, int, api.Code) {
	return model("expression", exprOf, syntax.CheckExpr, text)
}

func modelType(text string) (api.Type, int, api.Code) {
	return model("type", typeOf, syntax.CheckType, text)
}
