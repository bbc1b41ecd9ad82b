package typecheck_test

import (
	"math/rand"
	"reflect"
	"slices"
	"strconv"

	"keyhole/api"
	"keyhole/types"
)

// generator makes random programs that mostly follow the rules. One of slips nodes is made without regard to them (0: none).
type generator struct {
	*rand.Rand
	slips int
}

func newGenerator(seed int64, slips int) generator {
	return generator{rand.New(rand.NewSource(seed)), slips}
}

func pick[T any](g generator, list ...T) T {
	return list[g.Intn(len(list))]
}

// slip reports whether the rules are to be broken here.
func (g generator) slip() bool {
	return g.slips > 0 && g.Intn(g.slips) == 0
}

// world is what can be seen at a place of a program.
type world struct {
	generator
	known    []api.Decl // the declarations before, with expanded types
	visible  []entry
	function bool
	loops    int
}

// name returns a name for the declaration with the index, mostly a new one.
func (g generator) name(index int) string {
	if g.slip() {
		index = g.Intn(index + 2)
	}
	return "d" + strconv.Itoa(index)
}

// kind returns a type of at most the depth, in which the names of type declarations may occur.
func (w world) kind(depth int) api.Type {
	if w.slip() {
		return pick(w.generator, api.Type{Kind: api.TypeName, Name: "d1"}, api.Type{Kind: api.TypeArray, Size: 17, Of: []api.Type{{Kind: api.TypeArray, Size: 2, Of: []api.Type{{}}}}},
			api.Type{Kind: api.TypeRecord, Names: []string{"x", "x"}, Of: make([]api.Type, 2)}, api.Type{Kind: api.TypeInt, Low: -1 << 20, High: 1 << 20})
	}
	declared := slices.DeleteFunc(slices.Clone(w.known), func(d api.Decl) bool { return d.Kind != api.TypeDecl })
	switch {
	case len(declared) > 0 && w.Intn(4) == 0:
		return api.Type{Kind: api.TypeName, Name: pick(w.generator, declared...).Name}
	case depth > 1 && w.Intn(4) == 0:
		return api.Type{Kind: api.TypeArray, Size: 1 + w.Intn(3), Of: []api.Type{w.kind(depth - 1)}}
	case depth > 1 && w.Intn(4) == 0:
		return api.Type{Kind: api.TypeRecord, Names: []string{"x", "y"}, Of: []api.Type{w.kind(depth - 1), w.kind(depth - 1)}}
	}
	low := pick(w.generator, 0, 0, 1, -1, -2)
	return pick(w.generator, api.Type{}, api.Type{Kind: api.TypeInt, Low: low, High: low + w.Intn(4)})
}

func isNumber(t api.Type) bool { return t.Kind == api.TypeInt }
func isTruth(t api.Type) bool  { return t.Kind == api.TypeBool }

// place returns a component of a variable, of an accepted type, if one is found soon.
func (w world) place(depth int, variables []entry, accept func(t api.Type) bool) (api.Expr, bool) {
	for range 8 {
		if len(variables) == 0 {
			break
		}
		v := pick(w.generator, variables...)
		e, t := api.Expr{Op: api.OpName, Name: v.name}, *v.of
		for level := 1; level < depth && len(t.Of) > 0 && !accept(t); level++ {
			if t.Kind == api.TypeRecord {
				i := w.Intn(len(t.Of))
				e, t = api.Expr{Op: api.OpField, Name: t.Names[i], Kids: []api.Expr{e}}, t.Of[i]
			} else {
				e, t = api.Expr{Op: api.OpIndex, Kids: []api.Expr{e, w.number(depth - 2)}}, t.Of[0]
			}
		}
		if accept(t) {
			return e, true
		}
	}
	return api.Expr{}, false
}

// wrong returns an expression that is wrong at most places.
func (w world) wrong(depth int) api.Expr {
	any, _ := w.place(max(depth, 1), w.visible, func(t api.Type) bool { return w.Intn(3) == 0 })
	return pick(w.generator, w.number(depth-1), w.truth(depth-1), any, api.Expr{Op: api.OpName, Name: pick(w.generator, "d0", "d5", "none", "i0", "p0")},
		api.Expr{Op: api.OpField, Name: pick(w.generator, "x", "z"), Kids: []api.Expr{{Op: api.OpName, Name: "d2"}}},
		api.Expr{Op: api.OpIndex, Kids: []api.Expr{{Op: api.OpName, Name: "d2"}, w.truth(depth - 1)}},
		api.Expr{Op: api.OpMul, Kids: []api.Expr{{N: 1 << 20}, w.number(depth - 1)}}, api.Expr{Op: api.OpSub, Kids: []api.Expr{{N: 1 << 20}, w.number(depth - 1)}})
}

// number returns an int expression, mostly of at most the depth.
func (w world) number(depth int) api.Expr {
	if depth > 0 && w.slip() {
		return w.wrong(depth)
	}
	if e, ok := w.place(depth, w.visible, isNumber); ok && w.Intn(2) == 0 {
		return e
	}
	if depth <= 1 || w.Intn(4) == 0 {
		return api.Expr{N: pick(w.generator, 0, 1, 2, 3, 7, 100, 1<<20)}
	}
	switch op := pick(w.generator, api.OpNeg, api.OpAdd, api.OpSub, api.OpMul, api.OpDiv, api.OpMod, api.OpMin, api.OpMax, api.OpCond); op {
	case api.OpNeg:
		return api.Expr{Op: op, Kids: []api.Expr{w.number(depth - 1)}}
	case api.OpCond:
		return api.Expr{Op: op, Kids: []api.Expr{w.truth(depth - 1), w.number(depth - 1), w.number(depth - 1)}}
	default:
		return api.Expr{Op: op, Kids: []api.Expr{w.number(depth - 1), w.number(depth - 1)}}
	}
}

// truth returns a bool expression.
func (w world) truth(depth int) api.Expr {
	if depth > 0 && w.slip() {
		return w.wrong(depth)
	}
	if e, ok := w.place(depth, w.visible, isTruth); ok && w.Intn(2) == 0 {
		return e
	}
	if depth <= 1 || w.Intn(6) == 0 {
		return api.Expr{Op: pick(w.generator, api.OpTrue, api.OpFalse)}
	}
	a, b := w.number(depth-1), w.number(depth-1)
	p, q, r := w.truth(depth-1), w.truth(depth-1), w.truth(depth-1)
	return pick(w.generator, api.Expr{Op: api.OpNot, Kids: []api.Expr{p}}, api.Expr{Op: pick(w.generator, api.OpAnd, api.OpOr, api.OpEq, api.OpNe), Kids: []api.Expr{p, q}},
		api.Expr{Op: pick(w.generator, api.OpEq, api.OpNe, api.OpLt, api.OpLe, api.OpGt, api.OpGe), Kids: []api.Expr{a, b}}, api.Expr{Op: api.OpCond, Kids: []api.Expr{p, q, r}})
}

// value returns an expression that is assignable to a place of the type, if one is found soon.
func (w world) value(t api.Type, depth int) api.Expr {
	switch {
	case w.slip():
		return w.wrong(depth)
	case isNumber(t):
		return w.number(depth)
	case isTruth(t):
		return w.truth(depth)
	}
	e, _ := w.place(depth, w.visible, func(other api.Type) bool { return types.Equal(t, other) })
	return e
}

// target returns a place that may be assigned, and its type.
func (w world) target(accept func(t api.Type) bool) (api.Expr, api.Type, bool) {
	variables := slices.DeleteFunc(slices.Clone(w.visible), func(v entry) bool { return v.readOnly && !w.slip() })
	var found api.Type
	e, ok := w.place(4, variables, func(t api.Type) bool {
		found = t
		return accept(t) || w.slip()
	})
	return e, found, ok
}

func (w world) stmts(most, depth int) []api.Stmt {
	var list []api.Stmt
	for range w.Intn(most + 1) {
		list = append(list, w.stmt(depth))
	}
	return list
}

func (w world) stmt(depth int) api.Stmt {
	if w.slip() {
		return pick(w.generator, api.Stmt{Verb: api.SettleStmt, Numbers: []int{1, 2}}, api.Stmt{Verb: api.OutputStmt, Value: w.wrong(3)},
			api.Stmt{Verb: api.ReleaseStmt, Place: w.wrongPlace(), Name: "d3"}, api.Stmt{Verb: api.CallStmt, Place: w.wrongPlace(), Name: "d4", Args: []api.Expr{w.wrong(2)}},
			api.Stmt{Verb: api.ForStmt, Name: pick(w.generator, "d0", "i0", "p0", "v0"), Low: 1, High: 3, Then: w.stmts(1, 1)})
	}
	if depth > 1 && w.Intn(2) == 0 {
		return w.compound(depth)
	}
	place, t, ok := w.target(func(t api.Type) bool { return w.Intn(2) == 0 || len(t.Of) == 0 })
	switch {
	case ok && w.Intn(2) == 0:
		return api.Stmt{Place: place, Value: w.value(t, 4)}
	case w.Intn(2) == 0:
		return w.use()
	case w.Intn(3) == 0:
		return api.Stmt{Verb: api.OutputStmt, Value: pick(w.generator, w.number(4), w.truth(4))}
	}
	return api.Stmt{Verb: api.WaitStmt, N: w.Intn(100)}
}

func (w world) wrongPlace() api.Expr {
	return api.Expr{Op: api.OpName, Name: pick(w.generator, "d1", "d2", "d3", "p0", "v0", "none")}
}

// use returns a call or a release, if there is something to call or to release.
func (w world) use() api.Stmt {
	list := slices.DeleteFunc(slices.Clone(w.known), func(d api.Decl) bool {
		return d.Kind != api.FuncDecl && (d.Kind != api.HatchDecl || w.function)
	})
	if len(list) == 0 {
		return api.Stmt{Verb: api.WaitStmt}
	}
	d := pick(w.generator, list...)
	place, _, ok := w.target(func(t api.Type) bool { return assignable(api.Expr{Op: api.OpName}, &d.Type, &t) })
	switch {
	case !ok:
		return api.Stmt{Verb: api.WaitStmt}
	case d.Kind == api.HatchDecl:
		return api.Stmt{Verb: api.ReleaseStmt, Place: place, Name: d.Name}
	}
	s := api.Stmt{Verb: api.CallStmt, Place: place, Name: d.Name}
	for _, param := range d.Params {
		s.Args = append(s.Args, w.value(param.Type, 3))
	}
	if w.slips > 0 && w.Intn(6) == 0 {
		s.Args = append(s.Args, w.wrong(2))
	}
	return s
}

// compound returns a statement with statements inside.
func (w world) compound(depth int) api.Stmt {
	switch w.Intn(3) {
	case 0:
		return api.Stmt{Verb: api.IfStmt, Value: w.truth(3), Then: w.stmts(2, depth-1), Else: w.stmts(2, depth-1)}
	case 1:
		return api.Stmt{Verb: api.WhileStmt, Value: w.truth(3), N: w.Intn(4), Then: w.stmts(2, depth-1)}
	}
	low := w.Intn(5) - 3
	inner := w
	s := api.Stmt{Verb: api.ForStmt, Name: "i" + strconv.Itoa(w.loops), Low: low, High: low + w.Intn(3)}
	inner.loops++
	inner.visible = append(slices.Clone(w.visible), entry{name: s.Name, of: &api.Type{Kind: api.TypeInt, Low: s.Low, High: s.High}, readOnly: true})
	s.Then = inner.stmts(2, depth-1)
	return s
}

// expand returns the expanded type, or bool if it cannot be expanded.
func (w world) expand(t api.Type) api.Type {
	result, _ := types.Expand(w.known, t)
	return result
}

// decl returns a declaration with the name.
func (w world) decl(name string) api.Decl {
	kind := pick(w.generator, api.TypeDecl, api.SecretDecl, api.PublicDecl, api.RandomDecl, api.VarDecl, api.VarDecl, api.HatchDecl, api.FuncDecl, api.FuncDecl)
	d := api.Decl{Kind: kind, Name: name, Type: w.kind(3)}
	switch kind {
	case api.VarDecl:
		d.Init = w.Intn(2)
	case api.HatchDecl:
		if t := w.expand(d.Type); !isNumber(t) && !isTruth(t) && !w.slip() {
			d.Type = api.Type{}
		}
		w.visible = slices.DeleteFunc(slices.Clone(w.visible), func(v entry) bool { return !v.isInput && !w.slip() })
		d.Value = w.value(w.expand(d.Type), 3)
	case api.FuncDecl:
		w.function, w.visible = true, nil
		for i := range w.Intn(3) {
			d.Params = append(d.Params, w.local(w.localName("p", i)))
		}
		for i := range w.Intn(3) {
			d.Vars = append(d.Vars, w.local(w.localName("v", i)))
		}
		for _, v := range slices.Concat(d.Params, d.Vars) {
			t := w.expand(v.Type)
			w.visible = append(w.visible, entry{name: v.Name, of: &t})
		}
		d.Body = w.stmts(2, 2)
		d.Value = w.value(w.expand(d.Type), 3)
	}
	return d
}

func (w world) localName(prefix string, i int) string {
	if w.slip() {
		return pick(w.generator, "p0", "v0", "d1")
	}
	return prefix + strconv.Itoa(i)
}

// local returns a parameter or a variable of a function.
func (w world) local(name string) api.Decl {
	return api.Decl{Kind: api.VarDecl, Name: name, Type: w.kind(2)}
}

// declared returns the world behind a declaration.
func (w world) declared(d api.Decl) world {
	d.Type = w.expand(d.Type)
	d.Params = slices.Clone(d.Params)
	for i := range d.Params {
		d.Params[i].Type = w.expand(d.Params[i].Type)
	}
	w.known = append(slices.Clone(w.known), d)
	isInput := d.Kind == api.SecretDecl || d.Kind == api.PublicDecl || d.Kind == api.RandomDecl
	if isInput || d.Kind == api.VarDecl {
		w.visible = append(slices.Clone(w.visible), entry{d.Name, &d.Type, isInput, isInput})
	}
	return w
}

// program returns a program, and what is visible in its Body.
func (g generator) program() (api.Program, world) {
	var p api.Program
	w := world{generator: g}
	for i := range g.Intn(8) {
		d := w.decl(g.name(i))
		w = w.declared(d)
		p.Decls = append(p.Decls, d)
	}
	p.Body = w.stmts(4, 3)
	if g.Intn(4) == 0 {
		p.Body = append(p.Body, api.Stmt{Verb: api.SettleStmt, Numbers: []int{5, 50}})
	}
	return p, w
}

// fieldsOf returns all fields of all nodes within v that may be changed: numbers, names and lists.
func fieldsOf(v reflect.Value) []reflect.Value {
	switch v.Kind() {
	case reflect.Struct:
		var result []reflect.Value
		for i := range v.NumField() {
			result = append(result, fieldsOf(v.Field(i))...)
		}
		return result
	case reflect.Slice:
		result := []reflect.Value{v}
		for i := range v.Len() {
			result = append(result, fieldsOf(v.Index(i))...)
		}
		return result
	}
	return []reflect.Value{v}
}

// mutate changes one field of the program, often so that it breaks a rule.
func (g generator) mutate(p *api.Program) {
	switch field := pick(g, fieldsOf(reflect.ValueOf(p).Elem())...); field.Kind() {
	case reflect.Int:
		field.SetInt(int64(pick(g, -1, 0, 1, 2, 3, 4, 5, 6, 8, 12, 17, 22, 32, 33, 64, 4096, 1<<20, -1<<20)))
	case reflect.String:
		field.SetString(pick(g, "", "d0", "d1", "d2", "d3", "d4", "d5", "i0", "p0", "v0", "x", "y", "none"))
	case reflect.Slice:
		n := field.Len()
		if n > 0 && g.Intn(2) == 0 {
			field.Set(field.Slice(0, n-1))
		} else if n > 0 {
			field.Set(reflect.Append(field.Slice3(0, n, n), field.Index(g.Intn(n))))
		}
	}
}
