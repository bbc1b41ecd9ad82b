package typecheck_test

import (
	"math/big"
	"slices"

	"keyhole/api"
	"keyhole/syntax"
	"keyhole/types"
)

// The model goes on behind an error: it notes all errors in the order of the chapter, of which the first one counts. Ranges
// come from all results at the ends, steps from a program in which all functions are inlined.

// fault is an error, and the declaration in which it is.
type fault struct {
	at   int
	code api.Code
}

// entry is a variable that is visible.
type entry struct {
	name     string
	of       *api.Type // nil: it has an error
	readOnly bool
	isInput  bool
}

// model is the program, and where the model stands in it.
type model struct {
	program    api.Program
	at         int // the declaration, -1 for the Body
	inFunction bool
	visible    []entry
	faults     *[]fault
}

func newModel(p api.Program) model {
	return model{program: p, at: -1, faults: &[]fault{}}
}

func (m model) note(found bool, code api.Code) {
	if found {
		*m.faults = append(*m.faults, fault{m.at, code})
	}
}

// check returns all errors of a program, or none but the first ones if it is malformed.
func check(p api.Program) []fault {
	m := newModel(p)
	m.note(syntax.Check(p) != api.OK, syntax.Check(p))
	if len(*m.faults) > 0 {
		return *m.faults
	}
	m.duplicates()
	for i := range p.Decls {
		m.at = i
		m.decl()
	}
	m.at = -1
	m.visible = m.variables()
	for i, s := range p.Body {
		if s.Verb != api.SettleStmt || i < len(p.Body)-1 {
			m.stmt(s)
		}
	}
	if len(*m.faults) == 0 {
		m.limits()
	}
	return *m.faults
}

// first returns what Check should return for the errors.
func first(faults []fault) (int, api.Code) {
	if len(faults) == 0 {
		return -1, api.OK
	}
	return faults[0].at, faults[0].code
}

func namesOf(decls []api.Decl) []string {
	var names []string
	for _, d := range decls {
		names = append(names, d.Name)
	}
	return names
}

func (m model) duplicates() {
	all := namesOf(m.program.Decls)
	for i, d := range m.program.Decls {
		m.at = i
		m.note(slices.Contains(all[:i], d.Name), api.ErrDuplicate)
		inner := append(namesOf(d.Params), namesOf(d.Vars)...)
		for k, name := range inner {
			m.note(slices.Contains(all, name) || slices.Contains(inner[:k], name), api.ErrDuplicate)
		}
	}
}

// expanded returns an expanded type, with the declarations before the one where the model stands.
func (m model) expanded(t api.Type) *api.Type {
	result, code := types.Expand(m.program.Decls[:m.at], t)
	m.note(code != api.OK, code)
	if code != api.OK {
		return nil
	}
	return &result
}

// variables returns the inputs and variables declared before the one where the model stands, or all of them.
func (m model) variables() []entry {
	var list []entry
	for i, d := range m.program.Decls {
		if i == m.at {
			break
		}
		if kind := d.Kind; kind >= api.SecretDecl && kind <= api.VarDecl {
			of, code := types.Expand(m.program.Decls[:i], d.Type)
			if code == api.OK {
				list = append(list, entry{d.Name, &of, kind != api.VarDecl, kind != api.VarDecl})
			}
		}
	}
	return list
}

// find returns the declaration of the kind with the name, among those that the model may look at. Its types are expanded.
func (m model) find(kind api.DeclKind, name string) *api.Decl {
	i := slices.IndexFunc(m.program.Decls, func(d api.Decl) bool { return d.Kind == kind && d.Name == name })
	if i < 0 || m.at >= 0 && i >= m.at {
		return nil
	}
	d := m.program.Decls[i]
	d.Type, _ = types.Expand(m.program.Decls[:i], d.Type)
	d.Params = slices.Clone(d.Params)
	for k := range d.Params {
		d.Params[k].Type, _ = types.Expand(m.program.Decls[:i], d.Params[k].Type)
	}
	return &d
}

func isKind(t *api.Type, kinds ...api.TypeKind) bool {
	return t != nil && slices.Contains(kinds, t.Kind)
}

func (m model) decl() {
	d := m.program.Decls[m.at]
	of := m.expanded(d.Type)
	switch d.Kind {
	case api.HatchDecl:
		m.note(!isKind(of, api.TypeBool, api.TypeInt), api.ErrType)
		m.visible = slices.DeleteFunc(m.variables(), func(e entry) bool { return !e.isInput })
		value := m.expr(d.Value)
		m.note(!assignable(d.Value, value, of), api.ErrType)
	case api.FuncDecl:
		m.inFunction = true
		for _, v := range slices.Concat(d.Params, d.Vars) {
			m.visible = append(m.visible, entry{name: v.Name, of: m.expanded(v.Type)})
		}
		m.stmts(d.Body)
		value := m.expr(d.Value)
		m.note(!assignable(d.Value, value, of), api.ErrType)
	}
}

// assignable reports whether the value e of the type s can be assigned to a place of the type t. A call has e OpName.
func assignable(e api.Expr, s, t *api.Type) bool {
	switch {
	case isKind(s, api.TypeBool):
		return isKind(t, api.TypeBool)
	case isKind(s, api.TypeInt):
		return isKind(t, api.TypeInt)
	}
	isPlace := e.Op == api.OpName || e.Op == api.OpField || e.Op == api.OpIndex
	return isPlace && s != nil && t != nil && types.Equal(*s, *t)
}

// expr notes the errors of an expression, and returns its type, or nil.
func (m model) expr(e api.Expr) *api.Type {
	var kids []*api.Type
	for _, kid := range e.Kids {
		kids = append(kids, m.expr(kid))
	}
	before := len(*m.faults)
	t := m.node(e, kids)
	if isKind(t, api.TypeInt) {
		m.note(t.Low < -1<<20 || t.High > 1<<20, api.ErrRange)
	}
	if len(*m.faults) > before {
		return nil
	}
	return t
}

// operands are the types of the kids that an operator takes (b: bool, i: int), and of its result.
var operands = map[api.Op][]string{
	api.OpNeg: {"i:i"}, api.OpNot: {"b:b"}, api.OpAdd: {"ii:i"}, api.OpSub: {"ii:i"}, api.OpMul: {"ii:i"}, api.OpDiv: {"ii:i"}, api.OpMod: {"ii:i"},
	api.OpEq: {"ii:b", "bb:b"}, api.OpNe: {"ii:b", "bb:b"}, api.OpLt: {"ii:b"}, api.OpLe: {"ii:b"}, api.OpGt: {"ii:b"}, api.OpGe: {"ii:b"},
	api.OpAnd: {"bb:b"}, api.OpOr: {"bb:b"}, api.OpMin: {"ii:i"}, api.OpMax: {"ii:i"}, api.OpCond: {"bii:i", "bbb:b"},
}

// node returns the type of an expression, whose kids have the types.
func (m model) node(e api.Expr, kids []*api.Type) *api.Type {
	truth := &api.Type{}
	switch e.Op {
	case api.OpLit:
		return &api.Type{Kind: api.TypeInt, Low: e.N, High: e.N}
	case api.OpTrue, api.OpFalse:
		return truth
	case api.OpName:
		i := slices.IndexFunc(m.visible, func(v entry) bool { return v.name == e.Name })
		m.note(i < 0, api.ErrName)
		if i < 0 {
			return nil
		}
		return m.visible[i].of
	case api.OpField:
		m.note(!isKind(kids[0], api.TypeRecord), api.ErrType)
		if isKind(kids[0], api.TypeRecord) {
			if i := slices.Index(kids[0].Names, e.Name); i >= 0 {
				return &kids[0].Of[i]
			}
			m.note(true, api.ErrName)
		}
		return nil
	case api.OpIndex:
		m.note(!isKind(kids[0], api.TypeArray) || !isKind(kids[1], api.TypeInt), api.ErrType)
		if isKind(kids[0], api.TypeArray) {
			return &kids[0].Of[0]
		}
		return nil
	}
	form := ""
	for _, kid := range kids {
		switch {
		case isKind(kid, api.TypeBool):
			form += "b"
		case isKind(kid, api.TypeInt):
			form += "i"
		}
	}
	switch {
	case slices.Contains(operands[e.Op], form+":b"):
		return truth
	case slices.Contains(operands[e.Op], form+":i"):
		low, high := rangeOf(e.Op, kids)
		return &api.Type{Kind: api.TypeInt, Low: low, High: high}
	}
	m.note(true, api.ErrType)
	return nil
}

// rangeOf returns the range of an int expression that has kids.
func rangeOf(op api.Op, kids []*api.Type) (low, high int) {
	last := kids[len(kids)-1]
	first := kids[max(0, len(kids)-2)]
	var results []int
	for _, a := range []int{first.Low, first.High} {
		for _, b := range []int{last.Low, last.High} {
			switch op {
			case api.OpNeg:
				results = append(results, -b)
			case api.OpAdd:
				results = append(results, a+b)
			case api.OpSub:
				results = append(results, a-b)
			case api.OpMul:
				results = append(results, a*b)
			case api.OpMin:
				results = append(results, min(a, b))
			case api.OpMax:
				results = append(results, max(a, b))
			case api.OpCond:
				results = append(results, a, b)
			case api.OpDiv:
				m := slices.Max([]int{first.Low, -first.Low, first.High, -first.High})
				results = append(results, m, 0)
				if first.Low < 0 || last.Low < 0 {
					results = append(results, -m)
				}
			case api.OpMod:
				results = append(results, 0)
				if last.Low < 0 {
					results = append(results, last.Low+1)
				}
				if last.High > 0 {
					results = append(results, last.High-1)
				}
			}
		}
	}
	return slices.Min(results), slices.Max(results)
}

func (m model) stmts(list []api.Stmt) {
	for _, s := range list {
		m.stmt(s)
	}
}

// place notes the errors of a place that is assigned, and returns its type, or nil.
func (m model) place(e api.Expr) *api.Type {
	t := m.expr(e)
	root := e
	for len(root.Kids) > 0 {
		root = root.Kids[0]
	}
	m.note(slices.ContainsFunc(m.visible, func(v entry) bool { return v.name == root.Name && v.readOnly }), api.ErrState)
	return t
}

func (m model) condition(e api.Expr) {
	m.note(!isKind(m.expr(e), api.TypeBool), api.ErrType)
}

// stmt notes the errors of a statement that is not the last one of the Body.
func (m model) stmt(s api.Stmt) {
	switch s.Verb {
	case api.SettleStmt:
		m.note(true, api.ErrState)
	case api.SetStmt:
		place := m.place(s.Place)
		value := m.expr(s.Value)
		m.note(!assignable(s.Value, value, place), api.ErrType)
	case api.CallStmt:
		m.call(s)
	case api.ReleaseStmt:
		place := m.place(s.Place)
		m.note(m.inFunction, api.ErrState)
		hatch := m.find(api.HatchDecl, s.Name)
		m.note(hatch == nil, api.ErrName)
		if hatch != nil {
			m.note(!assignable(api.Expr{}, &hatch.Type, place), api.ErrType)
		}
	case api.OutputStmt:
		m.note(!isKind(m.expr(s.Value), api.TypeBool, api.TypeInt), api.ErrType)
	case api.IfStmt:
		m.condition(s.Value)
		m.stmts(s.Then)
		m.stmts(s.Else)
	case api.WhileStmt:
		m.condition(s.Value)
		m.stmts(s.Then)
	case api.ForStmt:
		taken := func(v entry) bool { return v.name == s.Name }
		m.note(slices.Contains(namesOf(m.program.Decls), s.Name) || slices.ContainsFunc(m.visible, taken), api.ErrDuplicate)
		m.visible = append(slices.Clone(m.visible), entry{name: s.Name, of: &api.Type{Kind: api.TypeInt, Low: s.Low, High: s.High}, readOnly: true})
		m.stmts(s.Then)
	}
}

func (m model) call(s api.Stmt) {
	place := m.place(s.Place)
	f := m.find(api.FuncDecl, s.Name)
	m.note(f == nil, api.ErrName)
	if f == nil {
		return
	}
	m.note(len(s.Args) != len(f.Params), api.ErrMismatch)
	for i := range min(len(s.Args), len(f.Params)) {
		argument := m.expr(s.Args[i])
		m.note(!assignable(s.Args[i], argument, &f.Params[i].Type), api.ErrType)
	}
	m.note(!assignable(api.Expr{Op: api.OpName}, &f.Type, place), api.ErrType)
}

// limits notes whether a limit is passed, of a program without other errors.
func (m model) limits() {
	scalars, hatches := 0, 0
	vectors := map[api.DeclKind]*big.Int{api.SecretDecl: big.NewInt(1), api.PublicDecl: big.NewInt(1), api.RandomDecl: big.NewInt(1), api.VarDecl: big.NewInt(1)}
	for _, d := range m.program.Decls {
		if d.Kind == api.HatchDecl {
			hatches++
		}
		if vectors[d.Kind] == nil {
			continue
		}
		of, _ := types.Expand(m.program.Decls, d.Type)
		list, _ := types.Scalars(of)
		scalars += len(list)
		for _, s := range list {
			vectors[d.Kind].Mul(vectors[d.Kind], big.NewInt(int64(s.High-s.Low+1)))
		}
	}
	steps, outputs := work(m.program)
	above := func(n *big.Int, limit int64) bool { return n.Cmp(big.NewInt(limit)) > 0 }
	m.note(scalars > 64 || hatches > 8 || above(vectors[api.SecretDecl], 4096) || above(vectors[api.PublicDecl], 4096) ||
		above(vectors[api.RandomDecl], 256) || above(steps, 4096) || above(outputs, 8), api.ErrLimit)
}

// work returns the steps and the outputs of the Body of a program.
func work(p api.Program) (steps, outputs *big.Int) {
	return workOf(p, p.Body)
}

func workOf(p api.Program, list []api.Stmt) (steps, outputs *big.Int) {
	steps, outputs = big.NewInt(int64(len(list))), new(big.Int)
	for _, s := range list {
		thenSteps, thenOutputs := new(big.Int), new(big.Int)
		if len(s.Then) > 0 {
			thenSteps, thenOutputs = workOf(p, s.Then)
		}
		switch s.Verb {
		case api.OutputStmt:
			thenOutputs = big.NewInt(1)
		case api.IfStmt:
			elseSteps, elseOutputs := workOf(p, s.Else)
			thenSteps, thenOutputs = greater(thenSteps, elseSteps), greater(thenOutputs, elseOutputs)
		case api.WhileStmt, api.ForStmt:
			rounds := big.NewInt(int64(s.N))
			if s.Verb == api.ForStmt {
				rounds = big.NewInt(int64(s.High) - int64(s.Low) + 1)
			}
			thenSteps.Add(thenSteps, big.NewInt(1)).Mul(thenSteps, rounds)
			thenOutputs.Mul(thenOutputs, rounds)
		case api.CallStmt:
			f := slices.IndexFunc(p.Decls, func(d api.Decl) bool { return d.Name == s.Name })
			thenSteps, thenOutputs = workOf(p, p.Decls[f].Body)
		}
		steps.Add(steps, thenSteps)
		outputs.Add(outputs, thenOutputs)
	}
	return steps, outputs
}

func greater(a, b *big.Int) *big.Int {
	if a.Cmp(b) < 0 {
		return b
	}
	return a
}

// typeOf returns the type of an expression in the Body of a program without errors, or the code of its first error.
func typeOf(p api.Program, e api.Expr) (api.Type, api.Code) {
	if _, code := first(check(p)); code != api.OK {
		return api.Type{}, code
	}
	if code := syntax.CheckExpr(e); code != api.OK {
		return api.Type{}, code
	}
	m := newModel(p)
	m.visible = m.variables()
	t := m.expr(e)
	if _, code := first(*m.faults); code != api.OK {
		return api.Type{}, code
	}
	return *t, api.OK
}
