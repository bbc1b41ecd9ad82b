package interp_test

import (
	"math/rand"
	"slices"
	"strconv"

	"keyhole/api"
	"keyhole/types"
)

// generator makes random programs that follow the rules, but for limits and ranges that are passed sometimes.
type generator struct {
	*rand.Rand
}

func newGenerator(seed int64) generator {
	return generator{rand.New(rand.NewSource(seed))}
}

func pick[T any](g generator, list ...T) T {
	return list[g.Intn(len(list))]
}

// entry is a variable that is visible, with its expanded type.
type entry struct {
	name     string
	of       api.Type
	readOnly bool
	isInput  bool
}

// world is what can be seen at a place of a program.
type world struct {
	generator
	known    []api.Decl // the declarations before, with expanded types
	visible  []entry
	function bool
	loops    int
}

// kind returns a type, in which the names of type declarations may occur.
func (w world) kind(depth int) api.Type {
	var declared []api.Decl
	for _, d := range w.known {
		if d.Kind == api.TypeDecl {
			declared = append(declared, d)
		}
	}
	switch {
	case len(declared) > 0 && w.Intn(3) == 0:
		return api.Type{Kind: api.TypeName, Name: pick(w.generator, declared...).Name}
	case depth > 1 && w.Intn(4) == 0:
		return api.Type{Kind: api.TypeArray, Size: 1 + w.Intn(3), Of: []api.Type{w.kind(depth - 1)}}
	case depth > 1 && w.Intn(4) == 0:
		return api.Type{Kind: api.TypeRecord, Names: []string{"y", "x"}, Of: []api.Type{w.kind(depth - 1), w.kind(depth - 1)}}
	case w.Intn(3) == 0:
		return api.Type{}
	}
	low := pick(w.generator, 0, 0, 1, -1, -2)
	return api.Type{Kind: api.TypeInt, Low: low, High: low + w.Intn(4)}
}

func isNumber(t api.Type) bool { return t.Kind == api.TypeInt }
func isTruth(t api.Type) bool  { return t.Kind == api.TypeBool }

// place returns a component of a variable of an accepted type, with its type, if one is found soon.
func (w world) place(depth int, variables []entry, accept func(t api.Type) bool) (api.Expr, api.Type, bool) {
	for range 8 {
		if len(variables) == 0 {
			break
		}
		v := pick(w.generator, variables...)
		e, t := api.Expr{Op: api.OpName, Name: v.name}, v.of
		for level := 1; level < depth && len(t.Of) > 0 && (!accept(t) || w.Intn(2) == 0); level++ {
			if t.Kind == api.TypeRecord {
				i := w.Intn(len(t.Of))
				e, t = api.Expr{Op: api.OpField, Name: t.Names[i], Kids: []api.Expr{e}}, t.Of[i]
			} else {
				e, t = api.Expr{Op: api.OpIndex, Kids: []api.Expr{e, w.number(depth - 2)}}, t.Of[0]
			}
		}
		if accept(t) {
			return e, t, true
		}
	}
	return api.Expr{}, api.Type{}, false
}

// number returns an int expression.
func (w world) number(depth int) api.Expr {
	if e, _, ok := w.place(depth, w.visible, isNumber); ok && w.Intn(3) > 0 {
		return e
	}
	if depth <= 1 || w.Intn(4) == 0 {
		return api.Expr{N: pick(w.generator, 0, 1, 2, 3, 7, 100)}
	}
	switch op := pick(w.generator, api.OpNeg, api.OpAdd, api.OpSub, api.OpMul, api.OpDiv, api.OpMod, api.OpMin, api.OpMax, api.OpCond); op {
	case api.OpNeg:
		return api.Expr{Op: op, Kids: []api.Expr{w.number(depth - 1)}}
	case api.OpCond:
		return api.Expr{Op: op, Kids: []api.Expr{w.truth(depth - 1), w.number(depth - 1), w.number(depth - 1)}}
	default:
		return api.Expr{Op: op, Kids: []api.Expr{w.number(depth - 1), w.number(depth - 1)}}
	}
}

// truth returns a bool expression.
func (w world) truth(depth int) api.Expr {
	if e, _, ok := w.place(depth, w.visible, isTruth); ok && w.Intn(3) == 0 {
		return e
	}
	if depth <= 1 {
		return api.Expr{Op: pick(w.generator, api.OpTrue, api.OpFalse)}
	}
	switch w.Intn(6) {
	case 0:
		return api.Expr{Op: api.OpNot, Kids: []api.Expr{w.truth(depth - 1)}}
	case 1:
		return api.Expr{Op: pick(w.generator, api.OpAnd, api.OpOr, api.OpEq, api.OpNe), Kids: []api.Expr{w.truth(depth - 1), w.truth(depth - 1)}}
	case 2:
		return api.Expr{Op: api.OpCond, Kids: []api.Expr{w.truth(depth - 1), w.truth(depth - 1), w.truth(depth - 1)}}
	}
	return api.Expr{Op: pick(w.generator, api.OpEq, api.OpNe, api.OpLt, api.OpLe, api.OpGt, api.OpGe), Kids: []api.Expr{w.number(depth - 1), w.number(depth - 1)}}
}

// value returns an expression that is assignable to a place of the type, if one is found soon.
func (w world) value(t api.Type, depth int) (api.Expr, bool) {
	switch {
	case isNumber(t):
		return w.number(depth), true
	case isTruth(t):
		return w.truth(depth), true
	}
	e, _, ok := w.place(depth, w.visible, func(other api.Type) bool { return types.Equal(t, other) })
	return e, ok
}

// target returns a place that may be assigned, and its type.
func (w world) target(accept func(t api.Type) bool) (api.Expr, api.Type, bool) {
	var variables []entry
	for _, v := range w.visible {
		if !v.readOnly {
			variables = append(variables, v)
		}
	}
	return w.place(4, variables, accept)
}

func (w world) stmts(most, depth int) []api.Stmt {
	var list []api.Stmt
	for range w.Intn(most + 1) {
		list = append(list, w.stmt(depth))
	}
	return list
}

func (w world) stmt(depth int) api.Stmt {
	if depth > 1 && w.Intn(3) == 0 {
		return w.compound(depth)
	}
	switch w.Intn(8) {
	case 0, 1:
		return w.use()
	case 2:
		if w.Intn(2) == 0 {
			return api.Stmt{Verb: api.OutputStmt, Value: pick(w.generator, w.number(4), w.truth(4))}
		}
		return api.Stmt{Verb: api.WaitStmt, N: w.Intn(100)}
	}
	place, t, ok := w.target(func(t api.Type) bool { return w.Intn(2) == 0 || len(t.Of) == 0 })
	value, found := w.value(t, 4)
	if !ok || !found {
		return api.Stmt{Verb: api.WaitStmt, N: 1}
	}
	return api.Stmt{Place: place, Value: value}
}

// use returns a call or a release, if there is something to call or to release.
func (w world) use() api.Stmt {
	nothing := api.Stmt{Verb: api.WaitStmt}
	list := slices.DeleteFunc(slices.Clone(w.known), func(d api.Decl) bool {
		return d.Kind != api.FuncDecl && (d.Kind != api.HatchDecl || w.function)
	})
	if len(list) == 0 {
		return nothing
	}
	d := pick(w.generator, list...)
	place, _, ok := w.target(func(t api.Type) bool {
		return isNumber(t) && isNumber(d.Type) || isTruth(t) && isTruth(d.Type) || types.Equal(t, d.Type)
	})
	switch {
	case !ok:
		return nothing
	case d.Kind == api.HatchDecl:
		return api.Stmt{Verb: api.ReleaseStmt, Place: place, Name: d.Name}
	}
	s := api.Stmt{Verb: api.CallStmt, Place: place, Name: d.Name}
	for _, param := range d.Params {
		argument, ok := w.value(param.Type, 3)
		if !ok {
			return nothing
		}
		s.Args = append(s.Args, argument)
	}
	return s
}

// compound returns a statement with statements inside.
func (w world) compound(depth int) api.Stmt {
	switch w.Intn(3) {
	case 0:
		return api.Stmt{Verb: api.IfStmt, Value: w.truth(3), Then: w.stmts(2, depth-1), Else: w.stmts(2, depth-1)}
	case 1:
		return api.Stmt{Verb: api.WhileStmt, Value: w.truth(3), N: w.Intn(4), Then: w.stmts(2, depth-1)}
	}
	low := w.Intn(5) - 3
	inner := w
	s := api.Stmt{Verb: api.ForStmt, Name: "i" + strconv.Itoa(w.loops), Low: low, High: low + w.Intn(3)}
	inner.loops++
	inner.visible = append(slices.Clone(w.visible), entry{name: s.Name, of: api.Type{Kind: api.TypeInt, Low: s.Low, High: s.High}, readOnly: true})
	s.Then = inner.stmts(2, depth-1)
	return s
}

// expand returns the expanded type.
func (w world) expand(t api.Type) api.Type {
	expanded, _ := types.Expand(w.known, t)
	return expanded
}

// decl returns a declaration with the name.
func (w world) decl(name string) api.Decl {
	kind := pick(w.generator, api.TypeDecl, api.SecretDecl, api.PublicDecl, api.RandomDecl, api.VarDecl, api.VarDecl, api.VarDecl, api.HatchDecl, api.FuncDecl, api.FuncDecl)
	d := api.Decl{Kind: kind, Name: name, Type: w.kind(3)}
	switch kind {
	case api.VarDecl:
		d.Init = w.init(d.Type)
	case api.HatchDecl:
		if t := w.expand(d.Type); len(t.Of) > 0 {
			d.Type = pick(w.generator, api.Type{}, api.Type{Kind: api.TypeInt, Low: 0, High: 2})
		}
		w.visible = slices.DeleteFunc(slices.Clone(w.visible), func(v entry) bool { return !v.isInput })
		d.Value, _ = w.value(w.expand(d.Type), 3)
	case api.FuncDecl:
		return w.decideFunction(d)
	}
	return d
}

// init returns an initial value, which need not lie within the bounds.
func (w world) init(t api.Type) int {
	if t.Kind == api.TypeBool {
		return w.Intn(2)
	}
	return pick(w.generator, 0, 0, 1, 2, 5, -1, -5, 1<<20)
}

// decideFunction returns the declaration of a function with parameters, variables and a body.
func (w world) decideFunction(d api.Decl) api.Decl {
	w.function, w.visible = true, nil
	for i := range w.Intn(3) {
		d.Params = append(d.Params, api.Decl{Kind: api.VarDecl, Name: "p" + strconv.Itoa(i), Type: w.kind(2)})
	}
	for i := range w.Intn(3) {
		t := w.kind(2)
		d.Vars = append(d.Vars, api.Decl{Kind: api.VarDecl, Name: "v" + strconv.Itoa(i), Type: t, Init: w.init(t)})
	}
	for _, v := range slices.Concat(d.Params, d.Vars) {
		w.visible = append(w.visible, entry{name: v.Name, of: w.expand(v.Type)})
	}
	d.Body = w.stmts(3, 2)
	value, ok := w.value(w.expand(d.Type), 3)
	if !ok {
		d.Type, value = api.Type{Kind: api.TypeInt, Low: -2, High: 2}, w.number(3)
	}
	d.Value = value
	return d
}

// declared returns the world behind a declaration.
func (w world) declared(d api.Decl) world {
	d.Type = w.expand(d.Type)
	d.Params = slices.Clone(d.Params)
	for i := range d.Params {
		d.Params[i].Type = w.expand(d.Params[i].Type)
	}
	w.known = append(slices.Clone(w.known), d)
	isInput := d.Kind == api.SecretDecl || d.Kind == api.PublicDecl || d.Kind == api.RandomDecl
	if isInput || d.Kind == api.VarDecl {
		w.visible = append(slices.Clone(w.visible), entry{d.Name, d.Type, isInput, isInput})
	}
	return w
}

// program returns a program.
func (g generator) program() api.Program {
	var p api.Program
	w := world{generator: g}
	for i := range 2 + g.Intn(8) {
		d := w.decl("d" + strconv.Itoa(i))
		w = w.declared(d)
		p.Decls = append(p.Decls, d)
	}
	p.Body = w.stmts(7, 3)
	if g.Intn(4) == 0 {
		p.Body = append(p.Body, api.Stmt{Verb: api.SettleStmt, Numbers: []int{5, 50, 500}})
	}
	return p
}

// costs returns a cost model, mostly one without equal entries.
func (g generator) costs() api.Costs {
	n := g.Perm(101)
	if g.Intn(4) == 0 {
		n = make([]int, 13)
		n[g.Intn(13)] = 1
	}
	return api.Costs{Assign: n[0], Branch: n[1], Loop: n[2], Call: n[3], Output: n[4], Release: n[5], Load: n[6], Index: n[7], Arith: n[8], Multiply: n[9], Divide: n[10], Compare: n[11], Logic: n[12]}
}

// inputs returns values of the inputs of a program, each within its bounds.
func (g generator) inputs(p api.Program) api.Inputs {
	var in api.Inputs
	for _, d := range p.Decls {
		var list *[]int
		switch d.Kind {
		case api.SecretDecl:
			list = &in.Secret
		case api.PublicDecl:
			list = &in.Public
		case api.RandomDecl:
			list = &in.Random
		default:
			continue
		}
		t, _ := types.Expand(p.Decls, d.Type)
		scalars, _ := types.Scalars(t)
		for _, s := range scalars {
			*list = append(*list, s.Low+g.Intn(s.High-s.Low+1))
		}
	}
	return in
}
