package syntax_test

import (
	"regexp"
	"slices"
	"strings"

	"keyhole/api"
)

// The model follows the sentences of the chapter one by one: it first collects all nodes, with their depths.

const reserved = "type secret public random var hatch func return begin end bool int array of record true false call release output wait if else while limit for to settle min max"

var namePattern = regexp.MustCompile(`\A[a-z][a-z0-9]{0,11}\z`)

func isName(s string) bool {
	return namePattern.MatchString(s) && !slices.Contains(strings.Fields(reserved), s)
}

// nodes are the nodes of a tree that count, and the greatest depth or nesting.
type nodes struct {
	decls, params, vars []api.Decl // params and vars are among the decls too
	stmts               []api.Stmt
	exprs               []api.Expr
	types               []api.Type
	depth               int
}

func (n *nodes) count() int {
	return len(n.decls) + len(n.stmts) + len(n.exprs) + len(n.types)
}

func (n *nodes) addExpr(e api.Expr, depth int) {
	n.exprs = append(n.exprs, e)
	n.depth = max(n.depth, depth)
	for _, kid := range e.Kids {
		n.addExpr(kid, depth+1)
	}
}

func (n *nodes) addType(t api.Type, depth int) {
	n.types = append(n.types, t)
	n.depth = max(n.depth, depth)
	for _, of := range t.Of {
		n.addType(of, depth+1)
	}
}

func (n *nodes) addStmts(list []api.Stmt, nesting int) {
	for _, s := range list {
		n.stmts = append(n.stmts, s)
		n.depth = max(n.depth, nesting)
		if s.Verb == api.SetStmt || s.Verb == api.CallStmt || s.Verb == api.ReleaseStmt || !same(s.Place, api.Expr{}) {
			n.addExpr(s.Place, 1)
		}
		if slices.Contains([]api.Verb{api.SetStmt, api.OutputStmt, api.IfStmt, api.WhileStmt}, s.Verb) || !same(s.Value, api.Expr{}) {
			n.addExpr(s.Value, 1)
		}
		for _, argument := range s.Args {
			n.addExpr(argument, 1)
		}
		n.addStmts(s.Then, nesting+1)
		n.addStmts(s.Else, nesting+1)
	}
}

func (n *nodes) addDecls(list []api.Decl) {
	for _, d := range list {
		n.decls = append(n.decls, d)
		if d.Kind >= 0 && d.Kind <= api.FuncDecl || !same(d.Type, api.Type{}) {
			n.addType(d.Type, 1)
		}
		if d.Kind == api.HatchDecl || d.Kind == api.FuncDecl || !same(d.Value, api.Expr{}) {
			n.addExpr(d.Value, 1)
		}
		n.params, n.vars = append(n.params, d.Params...), append(n.vars, d.Vars...)
		n.addDecls(d.Params)
		n.addDecls(d.Vars)
		n.addStmts(d.Body, 1)
	}
}

func nodesOf(p api.Program) *nodes {
	n := &nodes{depth: 1}
	n.addDecls(p.Decls)
	n.addStmts(p.Body, 1)
	return n
}

// clearExpr returns e without the fields that its operator uses, and whether the operator occurs.
func clearExpr(e api.Expr) (api.Expr, bool) {
	op := e.Op
	e.Op = 0
	switch {
	case op == api.OpLit:
		e.N = 0
	case op == api.OpTrue, op == api.OpFalse:
	case op == api.OpName:
		e.Name = ""
	case op == api.OpField:
		e.Name, e.Kids = "", nil
	case op >= api.OpIndex && op <= api.OpCond:
		e.Kids = nil
	default:
		return e, false
	}
	return e, true
}

func clearType(t api.Type) (api.Type, bool) {
	kind := t.Kind
	t.Kind = 0
	switch kind {
	case api.TypeBool:
	case api.TypeInt:
		t.Low, t.High = 0, 0
	case api.TypeArray:
		t.Size, t.Of = 0, nil
	case api.TypeRecord:
		t.Names, t.Of = nil, nil
	case api.TypeName:
		t.Name = ""
	default:
		return t, false
	}
	return t, true
}

func clearStmt(s api.Stmt) (api.Stmt, bool) {
	verb := s.Verb
	s.Verb = 0
	switch verb {
	case api.SetStmt:
		s.Place, s.Value = api.Expr{}, api.Expr{}
	case api.CallStmt:
		s.Place, s.Name, s.Args = api.Expr{}, "", nil
	case api.ReleaseStmt:
		s.Place, s.Name = api.Expr{}, ""
	case api.OutputStmt:
		s.Value = api.Expr{}
	case api.WaitStmt:
		s.N = 0
	case api.IfStmt:
		s.Value, s.Then, s.Else = api.Expr{}, nil, nil
	case api.WhileStmt:
		s.Value, s.N, s.Then = api.Expr{}, 0, nil
	case api.ForStmt:
		s.Name, s.Low, s.High, s.Then = "", 0, 0, nil
	case api.SettleStmt:
		s.Numbers = nil
	default:
		return s, false
	}
	return s, true
}

func clearDecl(d api.Decl) (api.Decl, bool) {
	kind := d.Kind
	d.Kind, d.Name, d.Type = 0, "", api.Type{}
	switch kind {
	case api.TypeDecl, api.SecretDecl, api.PublicDecl, api.RandomDecl:
	case api.VarDecl:
		d.Init = 0
	case api.HatchDecl:
		d.Value = api.Expr{}
	case api.FuncDecl:
		d.Params, d.Vars, d.Body, d.Value = nil, nil, nil, api.Expr{}
	default:
		return d, false
	}
	return d, true
}

func placeOp(e api.Expr) bool {
	return e.Op == api.OpName || e.Op == api.OpField || e.Op == api.OpIndex
}

// kidsFit reports whether e has as many kids as its operator uses.
func kidsFit(e api.Expr) bool {
	switch {
	case e.Op <= api.OpName:
		return len(e.Kids) == 0
	case e.Op == api.OpField:
		return len(e.Kids) == 1 && placeOp(e.Kids[0])
	case e.Op == api.OpIndex:
		return len(e.Kids) == 2 && placeOp(e.Kids[0])
	case e.Op == api.OpNeg, e.Op == api.OpNot:
		return len(e.Kids) == 1
	case e.Op == api.OpCond:
		return len(e.Kids) == 3
	}
	return len(e.Kids) == 2
}

// malformed is the condition of ErrArgument.
func (n *nodes) malformed() bool {
	for _, e := range n.exprs {
		if rest, ok := clearExpr(e); !ok || !same(rest, api.Expr{}) || !kidsFit(e) {
			return true
		}
	}
	for _, t := range n.types {
		rest, ok := clearType(t)
		if !ok || !same(rest, api.Type{}) || t.Kind == api.TypeArray && len(t.Of) != 1 ||
			t.Kind == api.TypeRecord && (len(t.Of) == 0 || len(t.Of) != len(t.Names)) {
			return true
		}
	}
	for _, s := range n.stmts {
		rest, ok := clearStmt(s)
		if !ok || !same(rest, api.Stmt{}) || s.Verb <= api.ReleaseStmt && !placeOp(s.Place) {
			return true
		}
	}
	for _, d := range n.decls {
		if rest, ok := clearDecl(d); !ok || !same(rest, api.Decl{}) {
			return true
		}
	}
	return slices.ContainsFunc(n.params, func(d api.Decl) bool { return d.Kind != api.VarDecl || d.Init != 0 }) ||
		slices.ContainsFunc(n.vars, func(d api.Decl) bool { return d.Kind != api.VarDecl })
}

// misnamed is the condition of ErrName.
func (n *nodes) misnamed() bool {
	var names []string
	for _, e := range n.exprs {
		if e.Op == api.OpName || e.Op == api.OpField {
			names = append(names, e.Name)
		}
	}
	for _, t := range n.types {
		if t.Kind == api.TypeName {
			names = append(names, t.Name)
		}
		names = append(names, t.Names...)
	}
	for _, s := range n.stmts {
		if s.Verb == api.CallStmt || s.Verb == api.ReleaseStmt || s.Verb == api.ForStmt {
			names = append(names, s.Name)
		}
	}
	for _, d := range n.decls {
		names = append(names, d.Name)
	}
	return slices.ContainsFunc(names, func(name string) bool { return !isName(name) })
}

const (
	lowest  = -1048576
	highest = 1048576
)

// outOfRange is the condition of ErrRange.
func (n *nodes) outOfRange() bool {
	good := true
	for _, e := range n.exprs {
		good = good && (e.Op != api.OpLit || e.N >= 0 && e.N <= highest)
	}
	for _, t := range n.types {
		switch t.Kind {
		case api.TypeInt:
			good = good && t.Low >= lowest && t.Low <= highest && t.High >= lowest && t.High <= highest && t.Low <= t.High
		case api.TypeArray:
			good = good && t.Size >= 1 && t.Size <= 32
		case api.TypeRecord:
			good = good && len(t.Of) <= 32
		}
	}
	for _, s := range n.stmts {
		switch s.Verb {
		case api.WaitStmt:
			good = good && s.N >= 0 && s.N <= highest
		case api.WhileStmt:
			good = good && s.N >= 0 && s.N <= 4096
		case api.ForStmt:
			good = good && s.Low >= lowest && s.Low <= highest && s.High >= lowest && s.High <= highest && s.Low <= s.High && s.High-s.Low < 4096
		case api.SettleStmt:
			good = good && len(s.Numbers) >= 1 && len(s.Numbers) <= 32
			for i, number := range s.Numbers {
				good = good && number >= 0 && number <= highest && (i == 0 || number > s.Numbers[i-1])
			}
		}
	}
	for _, d := range n.decls {
		if d.Kind == api.VarDecl {
			good = good && d.Init >= lowest && d.Init <= highest && (d.Type.Kind != api.TypeBool || d.Init == 0 || d.Init == 1)
		}
	}
	return !good
}

func (n *nodes) code() api.Code {
	switch {
	case n.count() > 1024 || n.depth > 12:
		return api.ErrLimit
	case n.malformed():
		return api.ErrArgument
	case n.misnamed():
		return api.ErrName
	case n.outOfRange():
		return api.ErrRange
	}
	return api.OK
}

// check is the definition of Check, checkExpr that of CheckExpr, checkType that of CheckType.
func check(p api.Program) api.Code {
	return nodesOf(p).code()
}

func checkExpr(e api.Expr) api.Code {
	n := &nodes{}
	n.addExpr(e, 1)
	return n.code()
}

func checkType(t api.Type) api.Code {
	n := &nodes{}
	n.addType(t, 1)
	return n.code()
}
