package lower

import (
	"keyhole/api"
	"keyhole/types"
)

// most is what every greater weight counts as.
const most = 100_000

// sum and product return what is not above most exactly. So no weight can be too large for an int.
func sum(numbers ...int) int {
	total := 0
	for _, n := range numbers {
		total = min(total+n, most)
	}
	return total
}

func product(a, b int) int {
	return min(a*b, most)
}

// weigher has what is to be known for the weights of an accepted program.
type weigher struct {
	decls     []api.Decl
	functions map[string]function
}

// function has the weights of a function and the sizes of its parameters and variables. With them its body is weighed once,
// however often it is called.
type function struct {
	params            []int
	vars, body, value int
}

func newWeigher(p api.Program) *weigher {
	return &weigher{decls: p.Decls, functions: map[string]function{}}
}

func (w *weigher) program(p api.Program) int {
	total := 0
	body := scope{}
	for _, d := range p.Decls {
		switch d.Kind {
		case api.TypeDecl:
		case api.HatchDecl:
			total = sum(total, 2, body.weight(d.Value))
		case api.FuncDecl:
			w.functions[d.Name] = w.function(d)
		default:
			total = sum(total, w.declare(body, d))
		}
	}
	return sum(total, w.stmts(body, p.Body))
}

// declare adds a variable to a scope, and returns its size.
func (w *weigher) declare(s scope, d api.Decl) int {
	of, _ := types.Expand(w.decls, d.Type)
	s[d.Name] = variable{of: of}
	return sizeOf(of)
}

func (w *weigher) function(d api.Decl) function {
	var f function
	s := scope{}
	for _, param := range d.Params {
		f.params = append(f.params, w.declare(s, param))
	}
	for _, v := range d.Vars {
		f.vars = sum(f.vars, w.declare(s, v))
	}
	f.body, f.value = w.stmts(s, d.Body), s.weight(d.Value)
	return f
}

func (w *weigher) stmts(s scope, list []api.Stmt) int {
	total := 0
	for _, stmt := range list {
		total = sum(total, w.stmt(s, stmt), w.stmts(s, stmt.Then), w.stmts(s, stmt.Else))
	}
	return total
}

// stmt returns the weight of a statement without the statements inside.
func (w *weigher) stmt(s scope, stmt api.Stmt) int {
	switch stmt.Verb {
	case api.SetStmt:
		size := sizeOf(s.typeOf(stmt.Place))
		return sum(2, product(size, sum(s.weight(stmt.Place), s.weight(stmt.Value))))
	case api.CallStmt:
		return w.call(s, stmt)
	case api.ReleaseStmt:
		return sum(2, s.weight(stmt.Place))
	case api.WaitStmt, api.SettleStmt:
		return 1
	case api.ForStmt:
		return 4
	}
	return sum(2, s.weight(stmt.Value))
}

func (w *weigher) call(s scope, stmt api.Stmt) int {
	f := w.functions[stmt.Name]
	total := sum(2, f.vars, f.body)
	for i, size := range f.params {
		total = sum(total, product(size, sum(2, s.weight(stmt.Args[i]))))
	}
	size := sizeOf(s.typeOf(stmt.Place))
	return sum(total, product(size, sum(2, f.value, s.weight(stmt.Place))))
}

// weight returns the weight of an expression: its number of nodes times the product of the sizes of the arrays in it that are
// indexed.
func (s scope) weight(e api.Expr) int {
	nodes, width := 0, 1
	var visit func(e api.Expr)
	visit = func(e api.Expr) {
		nodes++
		if e.Op == api.OpIndex {
			width = product(width, s.typeOf(e.Kids[0]).Size)
		}
		for _, kid := range e.Kids {
			visit(kid)
		}
	}
	visit(e)
	return product(nodes, width)
}
