package outline

import (
	"keyhole/api"
	"keyhole/flat"
)

// HasOneTime reports whether a step takes the same time whatever the value of its term is.
func HasOneTime(s api.Step) bool {
	low, high := flat.Span(s.Then)
	switch s.Do {
	case api.If:
		otherLow, otherHigh := flat.Span(s.Else)
		return low == high && low == otherLow && low == otherHigh
	case api.Loop:
		return low == high && s.Term.Op == api.OpLit
	}
	return true
}

// IsSettled reports whether each run of a valid program ends at the same time: at the first bound of the Settle at its end.
func IsSettled(f api.Flat) bool {
	last := len(f.Body) - 1
	if last < 0 || f.Body[last].Do != api.Settle {
		return false
	}
	_, _, most, _ := flat.Bounds(f)
	return most <= f.Body[last].Bounds[0]
}
