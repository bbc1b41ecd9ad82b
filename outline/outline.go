// Package outline has what several layers ask of flat programs: their steps by their numbers, the variables of terms, and what
// takes always the same time.
package outline

import (
	"slices"

	"keyhole/api"
)

// None is the number of the step around a step that stands in no other one.
const None = -1

// Place is a step, and the number of the step in whose Then or Else it directly stands, or None.
type Place struct {
	api.Step
	Around int
}

// Places returns the steps of f in preorder, so each one at its number. They share the memory of f.
func Places(f api.Flat) []Place {
	var all []Place
	var add func(list []api.Step, around int)
	add = func(list []api.Step, around int) {
		for _, s := range list {
			at := len(all)
			all = append(all, Place{s, around})
			add(s.Then, at)
			add(s.Else, at)
		}
	}
	add(f.Body, None)
	return all
}

// Variables returns the variables to which a term refers, in ascending order, each once.
func Variables(t api.Term) []int {
	var found []int
	var add func(t api.Term)
	add = func(t api.Term) {
		if t.Op == api.OpRef {
			found = append(found, t.N)
		}
		for _, kid := range t.Kids {
			add(kid)
		}
	}
	add(t)
	slices.Sort(found)
	return slices.Compact(found)
}
