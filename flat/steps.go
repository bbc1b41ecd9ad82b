package flat

import (
	"slices"

	"keyhole/api"
)

// fields is a set of fields of a step.
type fields int

// The fields of steps, but for those that all of them use.
const (
	fieldVar fields = 1 << iota
	fieldN
	fieldTerm
	fieldThen
	fieldElse
	fieldBounds
)

// stepFields has the fields that each kind of step uses.
var stepFields = [...]fields{
	api.Assign:  fieldVar | fieldTerm,
	api.Output:  fieldTerm,
	api.Wait:    0,
	api.If:      fieldTerm | fieldThen | fieldElse,
	api.Loop:    fieldN | fieldTerm | fieldThen,
	api.Release: fieldVar | fieldN,
	api.Settle:  fieldBounds,
}

// set returns the field if it has a value, otherwise no field.
func set(field fields, hasValue bool) fields {
	if hasValue {
		return field
	}
	return 0
}

// fieldsOf returns the fields of s that are not zero.
func fieldsOf(s api.Step) fields {
	hasTerm := s.Term.Op != api.OpLit || s.Term.N != 0 || len(s.Term.Kids) > 0
	return set(fieldVar, s.Var != 0) | set(fieldN, s.N != 0) | set(fieldTerm, hasTerm) |
		set(fieldThen, len(s.Then) > 0) | set(fieldElse, len(s.Else) > 0) | set(fieldBounds, len(s.Bounds) > 0)
}

// isStep reports whether a step itself has the form of a step of f. Only the last step of the Body may settle the time.
func isStep(f api.Flat, s api.Step, isLast bool) bool {
	if s.Do < 0 || int(s.Do) >= len(stepFields) || fieldsOf(s)&^stepFields[s.Do] != 0 {
		return false
	}
	switch s.Do {
	case api.Assign:
		return isLocal(f.Vars, s.Var)
	case api.Release:
		return isLocal(f.Vars, s.Var) && s.N >= 0 && s.N < len(f.Hatches)
	case api.Settle:
		return isLast && isRising(s.Bounds)
	}
	return true
}

// isLocal reports whether a number is the index of a variable that may be assigned.
func isLocal(vars []api.Var, i int) bool {
	return anyOf(vars)(i) && vars[i].Kind == api.Local
}

// isRising reports whether the time may settle at the bounds, if they are not too great.
func isRising(bounds []int) bool {
	last := -1
	for _, b := range bounds {
		if b <= last {
			return false
		}
		last = b
	}
	return len(bounds) >= 1 && len(bounds) <= api.MaxGroups
}

// isInRange reports whether the numbers of a step with the right form are in their ranges.
func isInRange(s api.Step) bool {
	most := api.MaxCharge
	if s.Do == api.Wait {
		most = api.MaxTime
	}
	isTooGreat := func(bound int) bool { return bound > api.MaxTime }
	return s.Cost >= 0 && s.Cost <= most &&
		(s.Do != api.Loop || s.N >= 0 && s.N <= api.MaxRun) &&
		!slices.ContainsFunc(s.Bounds, isTooGreat)
}
