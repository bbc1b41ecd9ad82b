package flat

import (
	"cmp"
	"slices"

	"keyhole/api"
)

// Settled returns the least of the bounds that is not below time, or time if there is none.
func Settled(bounds []int, time int) int {
	settled, found := time, false
	for _, b := range bounds {
		if b >= time && (!found || b < settled) {
			settled, found = b, true
		}
	}
	return settled
}

// Seen returns what an observer sees of o: without the time, unless timed.
func Seen(o api.Observation, timed bool) api.Observation {
	seen := api.Observation{Outputs: slices.Clone(o.Outputs)}
	if timed {
		seen.Time = o.Time
	}
	return seen
}

// Compare returns -1, 0 or 1: observations are ordered by their outputs, a proper prefix first, then by their times.
func Compare(a, b api.Observation) int {
	return cmp.Or(slices.Compare(a.Outputs, b.Outputs), cmp.Compare(a.Time, b.Time))
}
