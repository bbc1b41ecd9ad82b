package syntax

import (
	"slices"

	"keyhole/api"
)

// The functions of this file call visit for a node and for all nodes within it: for values of the types api.Decl, api.Stmt,
// api.Expr and api.Type. A Place, Value or Type that is not used is visited like one that is.

func walkProgram(p api.Program, visit func(node any)) {
	walkDecls(p.Decls, visit)
	walkStmts(p.Body, visit)
}

func walkDecls(list []api.Decl, visit func(node any)) {
	for _, d := range list {
		visit(d)
		walkType(d.Type, visit)
		walkExpr(d.Value, visit)
		walkDecls(d.Params, visit)
		walkDecls(d.Vars, visit)
		walkStmts(d.Body, visit)
	}
}

func walkStmts(list []api.Stmt, visit func(node any)) {
	for _, s := range list {
		visit(s)
		walkExpr(s.Place, visit)
		walkExpr(s.Value, visit)
		for _, argument := range s.Args {
			walkExpr(argument, visit)
		}
		walkStmts(s.Then, visit)
		walkStmts(s.Else, visit)
	}
}

func walkExpr(e api.Expr, visit func(node any)) {
	visit(e)
	for _, kid := range e.Kids {
		walkExpr(kid, visit)
	}
}

func walkType(t api.Type, visit func(node any)) {
	visit(t)
	for _, component := range t.Of {
		walkType(component, visit)
	}
}

// Mentions reports whether the variable name occurs in e.
func Mentions(e api.Expr, name string) bool {
	return e.Op == api.OpName && e.Name == name ||
		slices.ContainsFunc(e.Kids, func(kid api.Expr) bool { return Mentions(kid, name) })
}
