package syntax

import (
	"slices"

	"keyhole/api"
)

// Equal reports whether p and q are the same program.
func Equal(p, q api.Program) bool {
	return slices.EqualFunc(p.Decls, q.Decls, equalDecl) && slices.EqualFunc(p.Body, q.Body, equalStmt)
}

// EqualExpr reports whether a and b are the same expression.
func EqualExpr(a, b api.Expr) bool {
	return a.Op == b.Op && a.N == b.N && a.Name == b.Name && slices.EqualFunc(a.Kids, b.Kids, EqualExpr)
}

func equalType(a, b api.Type) bool {
	return a.Kind == b.Kind && a.Low == b.Low && a.High == b.High && a.Size == b.Size && a.Name == b.Name &&
		slices.Equal(a.Names, b.Names) && slices.EqualFunc(a.Of, b.Of, equalType)
}

func equalStmt(a, b api.Stmt) bool {
	return a.Verb == b.Verb && EqualExpr(a.Place, b.Place) && EqualExpr(a.Value, b.Value) && a.Name == b.Name &&
		slices.EqualFunc(a.Args, b.Args, EqualExpr) && a.N == b.N && a.Low == b.Low && a.High == b.High &&
		slices.Equal(a.Numbers, b.Numbers) && slices.EqualFunc(a.Then, b.Then, equalStmt) && slices.EqualFunc(a.Else, b.Else, equalStmt)
}

func equalDecl(a, b api.Decl) bool {
	return a.Kind == b.Kind && a.Name == b.Name && equalType(a.Type, b.Type) && a.Init == b.Init && EqualExpr(a.Value, b.Value) &&
		slices.EqualFunc(a.Params, b.Params, equalDecl) && slices.EqualFunc(a.Vars, b.Vars, equalDecl) &&
		slices.EqualFunc(a.Body, b.Body, equalStmt)
}
