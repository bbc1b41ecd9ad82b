package interp_test

import (
	"strconv"
	"strings"

	"keyhole/api"
	"keyhole/types"
)

// store has the scalars of variables by their paths, which begin with the names of the variables.
type store map[string]int

// model runs programs by the sentences of the chapter. It names the scalars by their paths, and counts the costs when they
// arise.
type model struct {
	program api.Program
	costs   api.Costs
	hatches map[string]int
	outputs []int
	time    int
	waited  int // by wait statements
	settled bool
	calls   int
}

// scope has the expanded types of the variables that are visible.
type scope map[string]api.Type

// scalarsOf returns the scalars of a type that may have declared names.
func (m *model) scalarsOf(t api.Type) []api.Scalar {
	expanded, _ := types.Expand(m.program.Decls, t)
	scalars, _ := types.Scalars(expanded)
	return scalars
}

func (m *model) expand(t api.Type) api.Type {
	expanded, _ := types.Expand(m.program.Decls, t)
	return expanded
}

// path returns the path of the component that a place denotes, and its type.
func (m *model) path(place api.Expr, in scope, s store) (string, api.Type) {
	if place.Op == api.OpName {
		return place.Name, in[place.Name]
	}
	path, t := m.path(place.Kids[0], in, s)
	end := place.Name
	if place.Op == api.OpIndex {
		i := m.value(place.Kids[1], in, s)
		if i < 0 {
			i = 0
		}
		if i >= t.Size {
			i = t.Size - 1
		}
		end = strconv.Itoa(i)
	}
	component, _, code := types.Find(t, "."+end)
	if code != api.OK {
		panic("no component " + end)
	}
	return path + "." + end, component
}

// values returns the scalars of the value of an expression.
func (m *model) values(e api.Expr, in scope, s store) []int {
	if e.Op < api.OpName || e.Op > api.OpIndex {
		return []int{m.value(e, in, s)}
	}
	path, t := m.path(e, in, s)
	var list []int
	for _, scalar := range m.scalarsOf(t) {
		list = append(list, s[path+scalar.Path])
	}
	return list
}

// put stores a list of integers under a path.
func (m *model) put(path string, t api.Type, list []int, s store) {
	for i, scalar := range m.scalarsOf(t) {
		n := list[i]
		if n < scalar.Low {
			n = scalar.Low
		}
		if n > scalar.High {
			n = scalar.High
		}
		s[path+scalar.Path] = n
	}
}

// floor returns the quotient rounded down, 0 for the divisor 0.
func floor(a, b int) int {
	if b == 0 {
		return 0
	}
	for q := a/b + 1; ; q-- {
		if b > 0 && q*b <= a || b < 0 && q*b >= a {
			return q
		}
	}
}

func truthOf(holds bool) int {
	if holds {
		return 1
	}
	return 0
}

// value returns the value of an expression with a scalar type.
func (m *model) value(e api.Expr, in scope, s store) int {
	if e.Op >= api.OpName && e.Op <= api.OpIndex {
		path, _ := m.path(e, in, s)
		return s[path]
	}
	var k []int
	for _, kid := range e.Kids {
		k = append(k, m.value(kid, in, s))
	}
	switch e.Op {
	case api.OpLit:
		return e.N
	case api.OpTrue:
		return 1
	case api.OpFalse:
		return 0
	case api.OpNeg:
		return -k[0]
	case api.OpNot:
		return truthOf(k[0] != 1)
	case api.OpAdd:
		return k[0] + k[1]
	case api.OpSub:
		return k[0] - k[1]
	case api.OpMul:
		return k[0] * k[1]
	case api.OpDiv:
		return floor(k[0], k[1])
	case api.OpMod:
		if k[1] == 0 {
			return 0
		}
		return k[0] - k[1]*floor(k[0], k[1])
	case api.OpEq:
		return truthOf(k[0] == k[1])
	case api.OpNe:
		return truthOf(k[0] != k[1])
	case api.OpLt:
		return truthOf(k[0] < k[1])
	case api.OpLe:
		return truthOf(k[0] <= k[1])
	case api.OpGt:
		return truthOf(k[0] > k[1])
	case api.OpGe:
		return truthOf(k[0] >= k[1])
	case api.OpAnd:
		return k[0] * k[1]
	case api.OpOr:
		return truthOf(k[0]+k[1] > 0)
	case api.OpMin:
		return min(k[0], k[1])
	case api.OpMax:
		return max(k[0], k[1])
	case api.OpCond:
		return k[2-k[0]]
	}
	panic("no operator")
}

// exprCost returns the cost of an expression.
func (m *model) exprCost(e api.Expr) int {
	total := 0
	for _, kid := range e.Kids {
		total += m.exprCost(kid)
	}
	c := m.costs
	switch {
	case e.Op == api.OpName:
		total += c.Load
	case e.Op == api.OpIndex:
		total += c.Index
	case e.Op == api.OpMul:
		total += c.Multiply
	case e.Op == api.OpDiv, e.Op == api.OpMod:
		total += c.Divide
	case e.Op >= api.OpEq && e.Op <= api.OpGe:
		total += c.Compare
	case e.Op == api.OpNot, e.Op == api.OpAnd, e.Op == api.OpOr, e.Op == api.OpCond:
		total += c.Logic
	case e.Op >= api.OpNeg:
		total += c.Arith
	}
	return total
}

func (m *model) placeCost(e api.Expr) int {
	return m.exprCost(e) - m.costs.Load
}

// begin adds the variable with the value that it has at the start.
func (m *model) begin(d api.Decl, in scope, s store) {
	in[d.Name] = m.expand(d.Type)
	var list []int
	for _, scalar := range m.scalarsOf(d.Type) {
		if scalar.Bool && d.Init != 0 {
			list = append(list, 1)
		} else {
			list = append(list, d.Init)
		}
	}
	m.put(d.Name, in[d.Name], list, s)
}

// result is what the model finds.
type result struct {
	seen    api.Observation
	final   []int
	hatches []int
	code    api.Code // of the inputs and the time alone
}

// modelRun runs an accepted program.
func modelRun(p api.Program, c api.Costs, inputs api.Inputs) (result, *model) {
	m := &model{program: p, costs: c, hatches: map[string]int{}}
	in, s := scope{}, store{}
	if code := m.inputs(inputs, in, s); code != api.OK {
		return result{code: code}, m
	}
	var r result
	for _, d := range p.Decls {
		switch d.Kind {
		case api.VarDecl:
			m.begin(d, in, s)
		case api.HatchDecl:
			clamped := store{}
			m.put("", m.expand(d.Type), []int{m.value(d.Value, in, s)}, clamped)
			m.hatches[d.Name] = clamped[""]
			r.hatches = append(r.hatches, clamped[""])
		}
	}
	m.stmts(p.Body, in, s)
	for _, d := range p.Decls {
		if d.Kind >= api.SecretDecl && d.Kind <= api.VarDecl {
			r.final = append(r.final, m.values(api.Expr{Op: api.OpName, Name: d.Name}, in, s)...)
		}
	}
	r.seen = api.Observation{Outputs: m.outputs, Time: m.time}
	if m.time > 1<<26 {
		r.code = api.ErrLimit
	}
	return r, m
}

// inputs gives the inputs their values, unless they are wrong.
func (m *model) inputs(inputs api.Inputs, in scope, s store) api.Code {
	code := api.OK
	for kind, list := range map[api.DeclKind][]int{api.SecretDecl: inputs.Secret, api.PublicDecl: inputs.Public, api.RandomDecl: inputs.Random} {
		for _, d := range m.program.Decls {
			if d.Kind != kind {
				continue
			}
			in[d.Name] = m.expand(d.Type)
			scalars := m.scalarsOf(d.Type)
			if len(list) < len(scalars) {
				return api.ErrArgument
			}
			if !types.Contains(in[d.Name], list[:len(scalars)]) {
				code = api.ErrRange
			}
			m.put(d.Name, in[d.Name], list[:len(scalars)], s)
			list = list[len(scalars):]
		}
		if len(list) > 0 {
			return api.ErrArgument
		}
	}
	return code
}

func (m *model) stmts(list []api.Stmt, in scope, s store) {
	for _, stmt := range list {
		m.stmt(stmt, in, s)
	}
}

func (m *model) stmt(stmt api.Stmt, in scope, s store) {
	switch c := m.costs; stmt.Verb {
	case api.SetStmt:
		list := m.values(stmt.Value, in, s)
		path, t := m.path(stmt.Place, in, s)
		m.time += c.Assign*len(list) + m.placeCost(stmt.Place) + m.exprCost(stmt.Value)
		m.put(path, t, list, s)
	case api.CallStmt:
		m.call(stmt, in, s)
	case api.ReleaseStmt:
		path, t := m.path(stmt.Place, in, s)
		m.time += c.Release + c.Assign + m.placeCost(stmt.Place)
		m.put(path, t, []int{m.hatches[stmt.Name]}, s)
	case api.OutputStmt:
		m.time += c.Output + m.exprCost(stmt.Value)
		m.outputs = append(m.outputs, m.value(stmt.Value, in, s))
	case api.WaitStmt:
		m.time += stmt.N
		m.waited += stmt.N
	case api.IfStmt:
		m.time += c.Branch + m.exprCost(stmt.Value)
		chosen := map[int][]api.Stmt{0: stmt.Else, 1: stmt.Then}
		m.stmts(chosen[m.value(stmt.Value, in, s)], in, s)
	case api.WhileStmt:
		for k := 0; ; k++ {
			if k == stmt.N {
				return
			}
			m.time += c.Loop + m.exprCost(stmt.Value)
			if m.value(stmt.Value, in, s) == 0 {
				return
			}
			m.stmts(stmt.Then, in, s)
		}
	case api.ForStmt:
		in[stmt.Name] = api.Type{Kind: api.TypeInt, Low: stmt.Low, High: stmt.High}
		for k := stmt.Low; k <= stmt.High; k++ {
			m.time += c.Loop
			s[stmt.Name] = k
			m.stmts(stmt.Then, in, s)
		}
		delete(in, stmt.Name)
	case api.SettleStmt:
		m.settled = true
		best := -1
		for _, n := range stmt.Numbers {
			if n >= m.time && (best < 0 || n < best) {
				best = n
			}
		}
		m.time = max(m.time, best)
	}
}

func (m *model) call(stmt api.Stmt, in scope, s store) {
	m.calls++
	for _, d := range m.program.Decls {
		if d.Name != stmt.Name {
			continue
		}
		own, local := scope{}, store{}
		m.time += m.costs.Call
		for i, param := range d.Params {
			list := m.values(stmt.Args[i], in, s)
			m.time += m.exprCost(stmt.Args[i]) + m.costs.Assign*len(list)
			own[param.Name] = m.expand(param.Type)
			m.put(param.Name, own[param.Name], list, local)
		}
		for _, v := range d.Vars {
			m.begin(v, own, local)
		}
		m.stmts(d.Body, own, local)
		m.put(" result", m.expand(d.Type), m.values(d.Value, own, local), local)
		var list []int
		for _, scalar := range m.scalarsOf(d.Type) {
			list = append(list, local[" result"+scalar.Path])
		}
		path, t := m.path(stmt.Place, in, s)
		m.time += m.exprCost(d.Value) + m.costs.Assign*len(list) + m.placeCost(stmt.Place)
		m.put(path, t, list, s)
		return
	}
	panic("no function " + strings.TrimSpace(stmt.Name))
}
