package syntax

import "keyhole/api"

// counter counts the nodes of a tree, also of parts that are not used, until it is clear that there are too many of them or
// that they are nested too deeply. So it comes to an end soon, whatever the tree is. Its methods report whether the tree
// is within the limits so far.
type counter struct {
	nodes int
}

func (c *counter) node(depth int) bool {
	c.nodes++
	return c.nodes <= api.MaxNodes && depth <= api.MaxDepth
}

func (c *counter) program(p api.Program) bool {
	return c.decls(p.Decls) && c.stmts(p.Body, 1)
}

func (c *counter) decls(list []api.Decl) bool {
	for _, d := range list {
		// The nesting of declarations in one another has no limit of its own.
		if !c.node(1) || !c.declParts(d) {
			return false
		}
	}
	return true
}

func (c *counter) declParts(d api.Decl) bool {
	used := usedInDecl(d.Kind)
	return c.kindIf(used&fieldType != 0, d.Type) && c.exprIf(used&fieldValue != 0, d.Value) &&
		c.decls(d.Params) && c.decls(d.Vars) && c.stmts(d.Body, 1)
}

func (c *counter) stmts(list []api.Stmt, nesting int) bool {
	for _, s := range list {
		if !c.node(nesting) || !c.stmtParts(s, nesting) {
			return false
		}
	}
	return true
}

func (c *counter) stmtParts(s api.Stmt, nesting int) bool {
	used := usedInStmt(s.Verb)
	return c.exprIf(used&fieldPlace != 0, s.Place) && c.exprIf(used&fieldValue != 0, s.Value) && c.exprs(s.Args, 1) &&
		c.stmts(s.Then, nesting+1) && c.stmts(s.Else, nesting+1)
}

func (c *counter) exprIf(used bool, e api.Expr) bool {
	return !used && isZeroExpr(e) || c.expr(e, 1)
}

func (c *counter) expr(e api.Expr, depth int) bool {
	return c.node(depth) && c.exprs(e.Kids, depth+1)
}

func (c *counter) exprs(list []api.Expr, depth int) bool {
	for _, e := range list {
		if !c.expr(e, depth) {
			return false
		}
	}
	return true
}

func (c *counter) kindIf(used bool, t api.Type) bool {
	return !used && isZeroType(t) || c.kind(t, 1)
}

func (c *counter) kind(t api.Type, depth int) bool {
	if !c.node(depth) {
		return false
	}
	for _, component := range t.Of {
		if !c.kind(component, depth+1) {
			return false
		}
	}
	return true
}

// isZeroExpr reports whether e is the zero expression.
func isZeroExpr(e api.Expr) bool {
	return e.Op == api.OpLit && fieldsOfExpr(e) == 0
}

// isZeroType reports whether t is the zero type.
func isZeroType(t api.Type) bool {
	return t.Kind == api.TypeBool && fieldsOfType(t) == 0
}
