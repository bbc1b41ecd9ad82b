package flat

import "keyhole/api"

// machine is a run of a valid program.
type machine struct {
	program api.Flat
	values  []int // of the variables
	hatches []int // their values
	outputs []int
	time    int
}

// run returns the machine at the end of the run of f.
func run(f api.Flat, in api.Inputs) (machine, api.Code) {
	if code := Check(f); code != api.OK {
		return machine{}, code
	}
	values, code := start(f.Vars, in)
	if code != api.OK {
		return machine{}, code
	}
	m := machine{program: f, values: values}
	for _, h := range f.Hatches {
		m.hatches = append(m.hatches, clamp(valueOf(values, h.Term), h.Low, h.High))
	}
	m.steps(f.Body)
	return m, api.OK
}

// start returns the values of valid variables at the start.
func start(vars []api.Var, in api.Inputs) ([]int, api.Code) {
	given := [...][]int{api.Secret: in.Secret, api.Public: in.Public, api.Random: in.Random}
	var counts [len(given)]int
	var values []int
	for _, v := range vars {
		value := v.Init
		if v.Kind != api.Local {
			// A value that is missing is an error below.
			if i := counts[v.Kind]; i < len(given[v.Kind]) {
				value = given[v.Kind][i]
			}
			counts[v.Kind]++
		}
		values = append(values, value)
	}
	for kind, list := range given {
		if len(list) != counts[kind] {
			return nil, api.ErrArgument
		}
	}
	for i, v := range vars {
		if values[i] < v.Low || values[i] > v.High {
			return nil, api.ErrRange
		}
	}
	return values, api.OK
}

func (m *machine) steps(list []api.Step) {
	for _, s := range list {
		m.step(s)
	}
}

func (m *machine) step(s api.Step) {
	if s.Do == api.Loop {
		m.loop(s)
		return
	}
	m.time += s.Cost
	switch s.Do {
	case api.Assign:
		m.assign(s.Var, valueOf(m.values, s.Term))
	case api.Output:
		m.outputs = append(m.outputs, valueOf(m.values, s.Term))
	case api.If:
		if valueOf(m.values, s.Term) != 0 {
			m.steps(s.Then)
		} else {
			m.steps(s.Else)
		}
	case api.Release:
		m.assign(s.Var, m.hatches[s.N])
	case api.Settle:
		m.time = Settled(s.Bounds, m.time)
	}
}

func (m *machine) loop(s api.Step) {
	for range s.N {
		m.time += s.Cost
		if valueOf(m.values, s.Term) == 0 {
			return
		}
		m.steps(s.Then)
	}
}

// assign gives a variable the value that is nearest to the number.
func (m *machine) assign(i, number int) {
	v := m.program.Vars[i]
	m.values[i] = clamp(number, v.Low, v.High)
}
