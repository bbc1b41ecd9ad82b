package sample

import (
	"slices"

	"keyhole/api"
)

// Kit has the steps of which lists of steps are made: those without others inside, and Loops and Ifs, which are filled.
type Kit struct {
	Single, Loops, Ifs []api.Step
}

// Bodies calls visit with every list of so many steps, counted with those inside.
func (k Kit) Bodies(size int, visit func(list []api.Step)) {
	if size == 0 {
		visit(nil)
		return
	}
	for first := 1; first <= size; first++ {
		k.shapes(first, func(s api.Step) {
			k.Bodies(size-first, func(rest []api.Step) { visit(slices.Concat([]api.Step{s}, rest)) })
		})
	}
}

// shapes calls visit with every step that has, itself counted, so many steps.
func (k Kit) shapes(size int, visit func(s api.Step)) {
	if size == 1 {
		for _, s := range k.Single {
			visit(s)
		}
	}
	k.Bodies(size-1, func(inside []api.Step) {
		for _, s := range k.Loops {
			s.Then = inside
			visit(s)
		}
	})
	for n := range size {
		k.Bodies(n, func(then []api.Step) {
			k.Bodies(size-1-n, func(other []api.Step) {
				for _, s := range k.Ifs {
					s.Then, s.Else = then, other
					visit(s)
				}
			})
		})
	}
}
