package syntax_test

import (
	"math/rand"
	"reflect"

	"keyhole/api"
)

// generator makes random programs that are well formed, with numbers and names at the borders.
type generator struct {
	*rand.Rand
}

func newGenerator(seed int64) generator {
	return generator{rand.New(rand.NewSource(seed))}
}

func pick[T any](g generator, list ...T) T {
	return list[g.Intn(len(list))]
}

func (g generator) name() string {
	return pick(g, "a", "b", "c", "x1", "z", "types", "abcdefghijkl", "a00000000001")
}

func (g generator) number() int {
	return pick(g, 0, 1, 2, 7, 10, 4095, 1<<20-1, 1<<20)
}

// interval returns two numbers, the first one at most the second one.
func (g generator) interval() (int, int) {
	a, b := pick(g, g.number(), -g.number()), pick(g, g.number(), -g.number())
	return min(a, b), max(a, b)
}

func (g generator) place(depth int) api.Expr {
	switch {
	case depth > 1 && g.Intn(3) == 0:
		return api.Expr{Op: api.OpField, Name: g.name(), Kids: []api.Expr{g.place(depth - 1)}}
	case depth > 1 && g.Intn(3) == 0:
		return api.Expr{Op: api.OpIndex, Kids: []api.Expr{g.place(depth - 1), g.expr(depth - 1)}}
	}
	return api.Expr{Op: api.OpName, Name: g.name()}
}

func (g generator) exprs(count, depth int) []api.Expr {
	var list []api.Expr
	for range count {
		list = append(list, g.expr(depth))
	}
	return list
}

func (g generator) expr(depth int) api.Expr {
	if depth <= 1 || g.Intn(5) == 0 {
		return pick(g, api.Expr{N: g.number()}, api.Expr{Op: api.OpTrue}, api.Expr{Op: api.OpFalse}, g.place(depth))
	}
	op := api.OpNeg + api.Op(g.Intn(int(api.OpCond-api.OpNeg)+1))
	kids := 2
	switch op {
	case api.OpNeg, api.OpNot:
		kids = 1
	case api.OpCond:
		kids = 3
	}
	return api.Expr{Op: op, Kids: g.exprs(kids, depth-1)}
}

func (g generator) kind(depth int) api.Type {
	low, high := g.interval()
	if depth > 1 && g.Intn(2) == 0 {
		if g.Intn(2) == 0 {
			return api.Type{Kind: api.TypeArray, Size: pick(g, 1, 2, 31, 32), Of: []api.Type{g.kind(depth - 1)}}
		}
		record := api.Type{Kind: api.TypeRecord}
		for range 1 + g.Intn(3) {
			record.Names = append(record.Names, g.name())
			record.Of = append(record.Of, g.kind(depth-1))
		}
		return record
	}
	return pick(g, api.Type{}, api.Type{Kind: api.TypeInt, Low: low, High: high}, api.Type{Kind: api.TypeName, Name: g.name()})
}

func (g generator) numbers() []int {
	numbers := []int{g.Intn(3)}
	for range g.Intn(4) {
		numbers = append(numbers, numbers[len(numbers)-1]+1+g.Intn(1<<17))
	}
	return numbers
}

func (g generator) stmts(count, depth int) []api.Stmt {
	var list []api.Stmt
	for range count {
		list = append(list, g.stmt(depth))
	}
	return list
}

func (g generator) stmt(depth int) api.Stmt {
	verb := api.Verb(g.Intn(9))
	within := []api.Stmt(nil)
	if depth > 1 {
		within = g.stmts(g.Intn(3), depth-1)
	}
	switch verb {
	case api.SetStmt:
		return api.Stmt{Place: g.place(3), Value: g.expr(4)}
	case api.CallStmt:
		return api.Stmt{Verb: verb, Place: g.place(3), Name: g.name(), Args: g.exprs(g.Intn(3), 3)}
	case api.ReleaseStmt:
		return api.Stmt{Verb: verb, Place: g.place(3), Name: g.name()}
	case api.OutputStmt:
		return api.Stmt{Verb: verb, Value: g.expr(4)}
	case api.WaitStmt:
		return api.Stmt{Verb: verb, N: g.number()}
	case api.IfStmt:
		s := api.Stmt{Verb: verb, Value: g.expr(3), Then: within}
		if depth > 1 {
			s.Else = g.stmts(g.Intn(3), depth-1)
		}
		return s
	case api.WhileStmt:
		return api.Stmt{Verb: verb, Value: g.expr(3), N: pick(g, 0, 1, 4095, 4096), Then: within}
	case api.ForStmt:
		low := pick(g, -1<<20, -5, 0, 3, 1<<20-4095)
		return api.Stmt{Verb: verb, Name: g.name(), Low: low, High: low + pick(g, 0, 1, 4095), Then: within}
	}
	return api.Stmt{Verb: api.SettleStmt, Numbers: g.numbers()}
}

func (g generator) variable() api.Decl {
	d := api.Decl{Kind: api.VarDecl, Name: g.name(), Type: g.kind(3), Init: pick(g, 0, g.number(), -g.number())}
	if d.Type.Kind == api.TypeBool {
		d.Init = g.Intn(2)
	}
	return d
}

func (g generator) decl() api.Decl {
	switch kind := api.DeclKind(g.Intn(7)); kind {
	case api.VarDecl:
		return g.variable()
	case api.HatchDecl:
		return api.Decl{Kind: kind, Name: g.name(), Type: g.kind(3), Value: g.expr(4)}
	case api.FuncDecl:
		d := api.Decl{Kind: kind, Name: g.name(), Type: g.kind(2), Value: g.expr(3), Body: g.stmts(g.Intn(3), 2)}
		for range g.Intn(3) {
			param := g.variable()
			param.Init = 0
			d.Params = append(d.Params, param)
			d.Vars = append(d.Vars, g.variable())
		}
		return d
	default:
		return api.Decl{Kind: kind, Name: g.name(), Type: g.kind(3)}
	}
}

func (g generator) program() api.Program {
	var p api.Program
	for range g.Intn(5) {
		p.Decls = append(p.Decls, g.decl())
	}
	p.Body = g.stmts(g.Intn(4), 3)
	return p
}

// fieldsOf returns all fields of all nodes within v that may be changed: numbers, names and lists.
func fieldsOf(v reflect.Value) []reflect.Value {
	switch v.Kind() {
	case reflect.Struct:
		var result []reflect.Value
		for i := range v.NumField() {
			result = append(result, fieldsOf(v.Field(i))...)
		}
		return result
	case reflect.Slice:
		result := []reflect.Value{v}
		for i := range v.Len() {
			result = append(result, fieldsOf(v.Index(i))...)
		}
		return result
	}
	return []reflect.Value{v}
}

// mutate changes one field of the value that target points to, often so that it is not well formed any more.
func (g generator) mutate(target any) {
	fields := fieldsOf(reflect.ValueOf(target).Elem())
	field := fields[g.Intn(len(fields))]
	switch field.Kind() {
	case reflect.Int:
		field.SetInt(int64(pick(g, -1, 0, 1, 2, 3, 4, 5, 6, 7, 8, 9, 10, 22, 23, 24, 25, 31, 32, 33, 4096, 4097, 1<<20, 1<<20+1, -1<<20, -1<<20-1, 1<<62, -1<<63)))
	case reflect.String:
		field.SetString(pick(g, "", "a", "q", "b", "type", "A", "abcdefghijklm", "a b", "1"))
	case reflect.Slice:
		g.mutateList(field)
	}
}

// mutateList adds an element to a list, takes one away, or repeats one.
func (g generator) mutateList(list reflect.Value) {
	n := list.Len()
	copied := reflect.MakeSlice(list.Type(), 0, n+1)
	at := g.Intn(n + 1)
	switch {
	case n == 0 || g.Intn(3) == 0:
		copied = reflect.AppendSlice(copied, list)
		copied = reflect.Append(copied, reflect.Zero(list.Type().Elem()))
	case g.Intn(2) == 0 && at < n:
		copied = reflect.AppendSlice(copied, list.Slice(0, at))
		copied = reflect.AppendSlice(copied, list.Slice(at+1, n))
	default:
		copied = reflect.AppendSlice(copied, list)
		copied = reflect.Append(copied, list.Index(n-1))
	}
	list.Set(copied)
}

// clone returns a copy of v that shares no memory with it. Empty lists become nil, or the other way round.
func clone[T any](v T, empty bool) T {
	result := reflect.New(reflect.TypeOf(v)).Elem()
	cloneInto(result, reflect.ValueOf(v), empty)
	return result.Interface().(T)
}

func cloneInto(to, from reflect.Value, empty bool) {
	switch from.Kind() {
	case reflect.Struct:
		for i := range from.NumField() {
			cloneInto(to.Field(i), from.Field(i), empty)
		}
	case reflect.Slice:
		if from.Len() > 0 || empty {
			to.Set(reflect.MakeSlice(from.Type(), from.Len(), from.Len()))
		}
		for i := range from.Len() {
			cloneInto(to.Index(i), from.Index(i), empty)
		}
	default:
		to.Set(from)
	}
}

// same reports whether a and b have the same fields, where nil and empty lists are equal.
func same[T any](a, b T) bool {
	return reflect.DeepEqual(clone(a, false), clone(b, false))
}
