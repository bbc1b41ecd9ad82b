package symbolic_test

import (
	"slices"

	"keyhole/api"
	"keyhole/flat"
	"keyhole/sample"
)

// slotsOf returns the slots of the inputs of f.
func slotsOf(f api.Flat) []api.Slot {
	var slots []api.Slot
	first := 0
	for _, kind := range []api.Kind{api.Secret, api.Random} {
		for i, v := range f.Vars {
			if v.Kind != kind {
				continue
			}
			bits, values := 0, 1
			for values < v.High-v.Low+1 {
				bits, values = bits+1, 2*values
			}
			slots = append(slots, api.Slot{Var: i, First: first, Bits: bits})
			first += bits
		}
	}
	return slots
}

// bitsOf returns the number of bits of an encoding.
func bitsOf(f api.Flat) int {
	bits := 0
	for _, s := range slotsOf(f) {
		bits += s.Bits
	}
	return bits
}

// secretBits returns the number of bits of the secret inputs.
func secretBits(f api.Flat) int {
	bits := 0
	for _, s := range slotsOf(f) {
		if f.Vars[s.Var].Kind == api.Secret {
			bits += s.Bits
		}
	}
	return bits
}

// decoded returns the inputs of an encoding, and whether it has some.
func decoded(f api.Flat, in []bool) (api.Inputs, bool) {
	var inputs api.Inputs
	for _, s := range slotsOf(f) {
		v := f.Vars[s.Var]
		value := v.Low + sample.Rank(in[s.First:s.First+s.Bits])
		if value > v.High {
			return api.Inputs{}, false
		}
		if v.Kind == api.Secret {
			inputs.Secret = append(inputs.Secret, value)
		} else {
			inputs.Random = append(inputs.Random, value)
		}
	}
	return inputs, true
}

// tabled returns the diagram, over the first bits of an encoding, of a function of them.
func tabled(bits int, value func(in []bool) int) api.Mtbdd {
	var table []int
	sample.Assignments(bits, func(in []bool) { table = append(table, value(in)) })
	return sample.Reduced(bits, sample.Range(0, bits, 1), table)
}

// ofInputs returns the diagram of a function of inputs, with another value for encodings of no input.
func ofInputs(f api.Flat, public []int, none int, value func(in api.Inputs) int) api.Mtbdd {
	return tabled(bitsOf(f), func(in []bool) int {
		inputs, ok := decoded(f, in)
		if !ok {
			return none
		}
		inputs.Public = public
		return value(inputs)
	})
}

// observe returns what is seen of a run.
func observe(f api.Flat, v api.View, in api.Inputs) api.Observation {
	in.Public = v.Public
	o, code := flat.Run(f, in)
	if code != api.OK {
		panic(code)
	}
	return flat.Seen(o, v.Timed)
}

// everyInput calls visit with all secret and random inputs.
func everyInput(f api.Flat, visit func(in api.Inputs)) {
	sample.Assignments(bitsOf(f), func(in []bool) {
		if inputs, ok := decoded(f, in); ok {
			visit(inputs)
		}
	})
}

// runModel returns which observation each encoding gives, one run after the other.
func runModel(f api.Flat, v api.View) api.Map {
	var m api.Map
	everyInput(f, func(in api.Inputs) {
		o := observe(f, v, in)
		if !slices.ContainsFunc(m.Seen, isSame(o)) {
			m.Seen = append(m.Seen, o)
		}
	})
	slices.SortFunc(m.Seen, flat.Compare)
	m.Diagram = ofInputs(f, v.Public, -1, func(in api.Inputs) int { return slices.IndexFunc(m.Seen, isSame(observe(f, v, in))) })
	return m
}

// isSame returns a function that tells whether an observation is o.
func isSame(o api.Observation) func(other api.Observation) bool {
	return func(other api.Observation) bool {
		return slices.Equal(o.Outputs, other.Outputs) && o.Time == other.Time
	}
}

// countsModel returns the diagram of the numbers of vectors of random inputs that give o.
func countsModel(f api.Flat, v api.View, o api.Observation) api.Mtbdd {
	first := secretBits(f)
	return tabled(first, func(in []bool) int {
		count := 0
		sample.Assignments(bitsOf(f)-first, func(rest []bool) {
			if inputs, ok := decoded(f, slices.Concat(in, rest)); ok && isSame(o)(observe(f, v, inputs)) {
				count++
			}
		})
		return count
	})
}

// binary returns a diagram as a binary one that is true where the value is not 0.
func binary(a api.Mtbdd) api.Bdd {
	return sample.Binary(sample.Joined(func(l []int) int { return min(l[0], 1) }, a))
}

var isMtbdd = sample.IsSame

func isBdd(a, b api.Bdd) bool {
	return a.Vars == b.Vars && a.Root == b.Root && slices.Equal(a.Nodes, b.Nodes)
}

func isMap(a, b api.Map) bool {
	same := func(o, p api.Observation) bool { return isSame(o)(p) }
	return slices.EqualFunc(a.Seen, b.Seen, same) && isMtbdd(a.Diagram, b.Diagram)
}
