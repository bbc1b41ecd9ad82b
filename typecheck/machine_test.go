package typecheck_test

import (
	"keyhole/api"
	"keyhole/types"
)

// cell has the scalars of a variable.
type cell struct {
	of     api.Type
	values []int
}

// machine runs programs as chapter 16 says, but without time. It counts the statements, with the rounds of loops, and the
// outputs.
type machine struct {
	program        api.Program
	hatches        map[string]int
	steps, outputs int
}

// variable returns a variable whose scalars have the values that choose gives them.
func variable(of api.Type, choose func(s api.Scalar) int) *cell {
	c := &cell{of: of}
	scalars, _ := types.Scalars(of)
	for _, s := range scalars {
		c.values = append(c.values, min(max(choose(s), s.Low), s.High))
	}
	return c
}

// locate returns the cell of a place, the type of the place, and the index of its first scalar.
func (m *machine) locate(place api.Expr, frame map[string]*cell) (*cell, api.Type, int) {
	if place.Op == api.OpName {
		return frame[place.Name], frame[place.Name].of, 0
	}
	c, t, at := m.locate(place.Kids[0], frame)
	if place.Op == api.OpIndex {
		index := min(max(m.value(place.Kids[1], frame), 0), t.Size-1)
		return c, t.Of[0], at + index*sizeOf(t.Of[0])
	}
	for i, name := range t.Names {
		if name == place.Name {
			return c, t.Of[i], at
		}
		at += sizeOf(t.Of[i])
	}
	panic("no component " + place.Name)
}

func sizeOf(t api.Type) int {
	scalars, _ := types.Scalars(t)
	return len(scalars)
}

// values returns the scalars of the value of an expression.
func (m *machine) values(e api.Expr, frame map[string]*cell) []int {
	if e.Op >= api.OpName && e.Op <= api.OpIndex {
		c, t, at := m.locate(e, frame)
		return c.values[at : at+sizeOf(t)]
	}
	return []int{m.value(e, frame)}
}

// value returns the value of an expression with a scalar type.
func (m *machine) value(e api.Expr, frame map[string]*cell) int {
	if e.Op >= api.OpName && e.Op <= api.OpIndex {
		return m.values(e, frame)[0]
	}
	var kids []int
	for _, kid := range e.Kids {
		kids = append(kids, m.value(kid, frame))
	}
	return result(e, kids)
}

func truthOf(holds bool) int {
	if holds {
		return 1
	}
	return 0
}

// floor returns the quotient rounded down, 0 for the divisor 0.
func floor(a, b int) int {
	if b == 0 {
		return 0
	}
	for q := a/b + 1; ; q-- {
		if b > 0 && q*b <= a || b < 0 && q*b >= a {
			return q
		}
	}
}

// result returns the value of an expression that is not a place, with values of its kids.
func result(e api.Expr, k []int) int {
	switch e.Op {
	case api.OpLit:
		return e.N
	case api.OpTrue:
		return 1
	case api.OpNeg:
		return -k[0]
	case api.OpNot:
		return 1 - k[0]
	case api.OpAdd:
		return k[0] + k[1]
	case api.OpSub:
		return k[0] - k[1]
	case api.OpMul:
		return k[0] * k[1]
	case api.OpDiv:
		return floor(k[0], k[1])
	case api.OpMod:
		if k[1] == 0 {
			return 0
		}
		return k[0] - k[1]*floor(k[0], k[1])
	case api.OpEq:
		return truthOf(k[0] == k[1])
	case api.OpNe:
		return truthOf(k[0] != k[1])
	case api.OpLt:
		return truthOf(k[0] < k[1])
	case api.OpLe:
		return truthOf(k[0] <= k[1])
	case api.OpGt:
		return truthOf(k[0] > k[1])
	case api.OpGe:
		return truthOf(k[0] >= k[1])
	case api.OpAnd, api.OpMin:
		return min(k[0], k[1])
	case api.OpOr, api.OpMax:
		return max(k[0], k[1])
	case api.OpCond:
		return k[2-k[0]]
	}
	return 0
}

func (m *machine) store(place api.Expr, frame map[string]*cell, values []int) {
	values = append([]int{}, values...)
	c, t, at := m.locate(place, frame)
	clamped, _ := types.Clamp(t, values)
	copy(c.values[at:], clamped)
}

// run runs the program with the inputs that choose gives.
func run(p api.Program, choose func(s api.Scalar) int) *machine {
	m := &machine{program: p, hatches: map[string]int{}}
	frame := m.start(p.Decls, choose)
	for _, d := range p.Decls {
		if d.Kind == api.HatchDecl {
			m.hatches[d.Name] = m.value(d.Value, frame)
		}
	}
	m.stmts(p.Body, frame)
	return m
}

// start returns the inputs and variables that are declared, with their first values.
func (m *machine) start(decls []api.Decl, choose func(s api.Scalar) int) map[string]*cell {
	frame := map[string]*cell{}
	for _, d := range decls {
		of, _ := types.Expand(m.program.Decls, d.Type)
		switch d.Kind {
		case api.SecretDecl, api.PublicDecl, api.RandomDecl:
			frame[d.Name] = variable(of, choose)
		case api.VarDecl:
			frame[d.Name] = variable(of, func(api.Scalar) int { return d.Init })
		}
	}
	return frame
}

func (m *machine) stmts(list []api.Stmt, frame map[string]*cell) {
	for _, s := range list {
		m.steps++
		m.stmt(s, frame)
	}
}

func (m *machine) stmt(s api.Stmt, frame map[string]*cell) {
	switch s.Verb {
	case api.SetStmt:
		m.store(s.Place, frame, m.values(s.Value, frame))
	case api.ReleaseStmt:
		m.store(s.Place, frame, []int{m.hatches[s.Name]})
	case api.OutputStmt:
		m.value(s.Value, frame)
		m.outputs++
	case api.IfStmt:
		if m.value(s.Value, frame) == 1 {
			m.stmts(s.Then, frame)
		} else {
			m.stmts(s.Else, frame)
		}
	case api.WhileStmt:
		for k := 0; k < s.N && m.value(s.Value, frame) == 1; k++ {
			m.steps++
			m.stmts(s.Then, frame)
		}
	case api.ForStmt:
		for k := s.Low; k <= s.High; k++ {
			m.steps++
			frame[s.Name] = &cell{api.Type{Kind: api.TypeInt, Low: s.Low, High: s.High}, []int{k}}
			m.stmts(s.Then, frame)
		}
		delete(frame, s.Name)
	case api.CallStmt:
		m.call(s, frame)
	}
}

func (m *machine) call(s api.Stmt, frame map[string]*cell) {
	for _, d := range m.program.Decls {
		if d.Name != s.Name {
			continue
		}
		local := m.start(append(append([]api.Decl{}, d.Params...), d.Vars...), nil)
		for i, param := range d.Params {
			m.store(api.Expr{Op: api.OpName, Name: param.Name}, local, m.values(s.Args[i], frame))
		}
		m.stmts(d.Body, local)
		m.store(s.Place, frame, m.values(d.Value, local))
	}
}
