package symbolic

import (
	"math/bits"

	"keyhole/api"
	"keyhole/mtbdd"
)

// layout says where the inputs of a program stand in an encoding.
type layout struct {
	vars    []api.Var
	slots   []api.Slot
	secrets int // bits of the secret inputs, which come first
	bits    int
}

// layoutOf returns the layout of a valid program.
func layoutOf(f api.Flat) layout {
	l := layout{vars: f.Vars}
	l.add(api.Secret)
	l.secrets = l.bits
	l.add(api.Random)
	return l
}

// add appends the slots of the inputs of a kind.
func (l *layout) add(kind api.Kind) {
	for i, v := range l.vars {
		if v.Kind == kind {
			slot := api.Slot{Var: i, First: l.bits, Bits: bits.Len(uint(v.High - v.Low))}
			l.slots = append(l.slots, slot)
			l.bits += slot.Bits
		}
	}
}

// code returns ErrLimit if there are more bits than can be executed.
func (l layout) code() api.Code {
	if l.bits > api.MaxTruth {
		return api.ErrLimit
	}
	return api.OK
}

// write returns the bits of a value in a slot.
func (l layout) write(s api.Slot, value int) []bool {
	rest := value - l.vars[s.Var].Low
	var in []bool
	for bit := s.Bits - 1; bit >= 0; bit-- {
		in = append(in, rest>>bit&1 == 1)
	}
	return in
}

// read returns the value of a slot in an encoding, which may be too great for an input.
func (l layout) read(s api.Slot, in []bool) int {
	rest := 0
	for _, bit := range in[s.First : s.First+s.Bits] {
		rest *= 2
		if bit {
			rest++
		}
	}
	return l.vars[s.Var].Low + rest
}

// isInput reports whether each slot of an encoding holds a value of its input.
func (l layout) isInput(in []bool) bool {
	for _, s := range l.slots {
		if l.read(s, in) > l.vars[s.Var].High {
			return false
		}
	}
	return true
}

// diagram returns the diagram of a function of encodings.
func (l layout) diagram(value func(in []bool) int) api.Mtbdd {
	table := make([]int, 1<<l.bits)
	in := make([]bool, l.bits)
	for n := range table {
		for bit := range in {
			in[bit] = n>>(l.bits-1-bit)&1 == 1
		}
		table[n] = value(in)
	}
	a, _ := mtbdd.FromTable(l.bits, table)
	return a
}

// domain returns the diagram that is 1 for encodings of inputs, and 0 elsewhere.
func (l layout) domain() api.Mtbdd {
	return l.diagram(func(in []bool) int { return truth(l.isInput(in)) })
}

// input returns the diagram of the value of a slot. Encodings of no input count as encodings of inputs that are near, so that no value is ever out of its range.
func (l layout) input(s api.Slot) api.Mtbdd {
	high := l.vars[s.Var].High
	return l.diagram(func(in []bool) int { return min(l.read(s, in), high) })
}

// constant returns the diagram with the same value for all encodings.
func (l layout) constant(value int) api.Mtbdd {
	a, _ := mtbdd.Constant(l.bits, value)
	return a
}

func truth(holds bool) int {
	if holds {
		return 1
	}
	return 0
}
