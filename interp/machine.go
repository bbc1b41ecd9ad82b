package interp

import (
	"slices"

	"keyhole/api"
)

// machine is a run of a program.
type machine struct {
	program *program
	frame   frame          // the inputs and variables of the program
	hatches map[string]int // their values
	outputs []int
	time    int
}

// start returns a machine before the first statement.
func start(p *program, in api.Inputs) (*machine, api.Code) {
	m := &machine{program: p, frame: frame{}, hatches: map[string]int{}}
	if code := m.setVariables(in); code != api.OK {
		return nil, code
	}
	for _, d := range p.hatches {
		m.hatches[d.name] = d.holding(m.frame.values(d.value)).values[0]
	}
	return m, api.OK
}

// setVariables gives the inputs and variables of the program their first values.
func (m *machine) setVariables(in api.Inputs) api.Code {
	rest := map[api.DeclKind][]int{api.SecretDecl: in.Secret, api.PublicDecl: in.Public, api.RandomDecl: in.Random}
	for kind, values := range rest {
		if len(values) != m.program.inputs(kind) {
			return api.ErrArgument
		}
	}
	for _, d := range m.program.variables {
		if d.kind == api.VarDecl {
			m.frame[d.name] = d.initial()
			continue
		}
		values := rest[d.kind][:d.shape.size]
		rest[d.kind] = rest[d.kind][d.shape.size:]
		v := d.holding(values)
		if !slices.Equal(v.values, values) {
			return api.ErrRange
		}
		m.frame[d.name] = v
	}
	return api.OK
}

// run executes statements that see the variables of the frame.
func (m *machine) run(list []stmt, f frame) {
	for _, s := range list {
		m.execute(s, f)
	}
}

func (m *machine) execute(s stmt, f frame) {
	m.time += s.cost
	switch s.Verb {
	case api.SetStmt:
		f.store(s.Place, f.values(s.Value))
	case api.CallStmt:
		m.call(s, f)
	case api.ReleaseStmt:
		f.store(s.Place, []int{m.hatches[s.Name]})
	case api.OutputStmt:
		m.outputs = append(m.outputs, f.value(s.Value))
	case api.IfStmt:
		if f.value(s.Value) == 1 {
			m.run(s.then, f)
		} else {
			m.run(s.other, f)
		}
	case api.WhileStmt:
		m.while(s, f)
	case api.ForStmt:
		m.count(s, f)
	case api.SettleStmt:
		m.settle(s.Numbers)
	}
}

// while executes the rounds of a while statement.
func (m *machine) while(s stmt, f frame) {
rounds:
	for range s.N {
		m.time += s.round
		switch f.value(s.Value) {
		case 0:
			break rounds
		default:
			m.run(s.then, f)
		}
	}
}

// count executes the rounds of a for statement.
func (m *machine) count(s stmt, f frame) {
	counter := &declared{name: s.Name, shape: &shape{size: 1}, scalars: []api.Scalar{{Low: s.Low, High: s.High}}}
	for n := s.Low; n <= s.High; n++ {
		m.time += s.round
		f[s.Name] = counter.holding([]int{n})
		m.run(s.then, f)
	}
	delete(f, s.Name)
}

// call executes a call. Its costs before the body of the function are added already.
func (m *machine) call(s stmt, f frame) {
	called := m.program.function(s.Name)
	own := frame{}
	for i, param := range called.params {
		own[param.name] = param.holding(f.values(s.Args[i]))
	}
	for _, v := range called.vars {
		own[v.name] = v.initial()
	}
	m.run(called.body, own)
	result := called.result.holding(own.values(called.value))
	m.time += s.leave
	f.store(s.Place, result.values)
}

// settle lets the time rise to the first of the rising numbers that is not below it.
func (m *machine) settle(numbers []int) {
	for _, n := range numbers {
		if n >= m.time {
			m.time = n
			return
		}
	}
}
