package sample

import (
	"slices"

	"keyhole/api"
)

// World has functions that depend on no other variables of their diagrams than Over. A function is given by its values for all assignments of those.
type World struct {
	Vars int
	Over []int
}

// Small returns the world of all functions of so many variables.
func Small(vars int) World {
	return World{Vars: vars, Over: Range(0, vars, 1)}
}

// Range returns the numbers from a first one to before another one, by steps.
func Range(first, end, step int) []int {
	var l []int
	for i := first; i < end; i += step {
		l = append(l, i)
	}
	return l
}

// SomeWorld returns a world of functions of at most 6 variables, whose diagrams have sometimes many more. Like the other random choices it is made by numbers from 0 to n - 1 that intn(n) returns.
func SomeWorld(intn func(n int) int) World {
	vars := intn(7)
	if intn(3) == 0 {
		vars = []int{7, 20, api.MaxBit - 1, api.MaxBit}[intn(4)]
	}
	w := World{Vars: vars}
	left := Range(0, vars, 1)
	for range min(vars, 6) {
		i := intn(len(left))
		w.Over = append(w.Over, left[i])
		left = slices.Delete(left, i, i+1)
	}
	slices.Sort(w.Over)
	return w
}

// Variable returns a variable, mostly one on which functions depend.
func (w World) Variable(intn func(n int) int) int {
	if intn(4) > 0 {
		return w.Over[intn(len(w.Over))]
	}
	return intn(w.Vars)
}

// Variables returns at most so many variables, with repetitions.
func (w World) Variables(intn func(n int) int, most int) []int {
	var l []int
	for range intn(most + 1) {
		if w.Vars > 0 {
			l = append(l, w.Variable(intn))
		}
	}
	return l
}

// Function returns a function with values that are drawn; it does not always depend on all variables.
func Function[E any](w World, intn func(n int) int, draw func() E) []E {
	table := make([]E, 1<<len(w.Over))
	for i := range table {
		table[i] = draw()
	}
	for _, i := range w.Over {
		if intn(5) == 0 {
			table = Fixed(w, table, i, intn(2) == 1)
		}
	}
	return table
}

// Fixed returns what a function is if the variable i is v.
func Fixed[E any](w World, table []E, i int, v bool) []E {
	place := slices.Index(w.Over, i)
	var fixed []E
	Assignments(len(w.Over), func(in []bool) {
		if place >= 0 {
			in[place] = v
		}
		fixed = append(fixed, table[Rank(in)])
	})
	return fixed
}

// Rank returns the number of an assignment.
func Rank(in []bool) int {
	n := 0
	for _, v := range in {
		n *= 2
		if v {
			n++
		}
	}
	return n
}

// Pointwise returns the function whose values are op of the values of others.
func Pointwise[E, F any](op func(l []E) F, tables ...[]E) []F {
	var values []F
	for i := range tables[0] {
		var l []E
		for _, table := range tables {
			l = append(l, table[i])
		}
		values = append(values, op(l))
	}
	return values
}

// At returns the values that an assignment of all variables of the diagrams gives to Over.
func (w World) At(in []bool) []bool {
	var over []bool
	for _, i := range w.Over {
		over = append(over, in[i])
	}
	return over
}

// Beginning returns the diagram over MaxBit variables of a function of some of them that is irregular for its first n assignments, with the values 0 and 1, and 0 for the others. Different seeds give different functions.
func Beginning(seed, n int, over ...int) api.Mtbdd {
	table := make([]int, 1<<len(over))
	for i := range min(n, len(table)) {
		table[i] = scrambled(seed, i)
	}
	return Reduced(api.MaxBit, over, table)
}

// scrambled returns 0 or 1, without a visible rule.
func scrambled(seed, i int) int {
	x := uint64(seed)<<32 + uint64(i) + 1
	for range 3 {
		x ^= x >> 31
		x *= 0x9e3779b97f4a7c15
	}
	return int(x >> 63)
}

// Sized returns a diagram over MaxBit variables with exactly so many nodes, at most 5000, and the leaves 0 and 1. It asks for at least 12 given variables, or 16 if there are more than 700 nodes: it is a Beginning that has nearly enough nodes, behind a chain of the first variables, or a chain alone. (Its leaf 0 may not be reached.)
func Sized(nodes int, over ...int) api.Mtbdd {
	if nodes <= len(over) {
		return Chain(over[:nodes]...)
	}
	spare := len(over) - 12
	if nodes > 700 {
		spare = len(over) - 16
	}
	for seed := 1; ; seed++ {
		size := func(n int) int { return len(Beginning(seed, n, over[spare:]...).Nodes) }
		a := Beginning(seed, Last(nodes, size), over[spare:]...)
		if left := nodes - len(a.Nodes); left <= spare {
			return Joined(func(l []int) int { return l[0] * l[1] }, Chain(over[:left]...), a)
		}
	}
}

// Chain returns the diagram over MaxBit variables that is 1 where some of them, in ascending order, are true, and 0 elsewhere. (Its leaf 0 may not be reached.)
func Chain(over ...int) api.Mtbdd {
	a := api.Mtbdd{Vars: api.MaxBit, Leaves: []int{0, 1}, Root: 1}
	for i := len(over) - 1; i >= 0; i-- {
		a.Nodes = append(a.Nodes, api.Fork{Var: over[i], Low: 0, High: a.Root})
		a.Root = len(a.Nodes) + 1
	}
	return a
}

// Same returns the diagram over MaxBit variables that is 1 where as many variables from a first one on are the same as those from another one on, and 0 elsewhere.
func Same(first, other, count int) api.Mtbdd {
	a := Chain()
	for i := range count {
		a = Joined(func(l []int) int {
			if l[1] == l[2] {
				return l[0]
			}
			return 0
		}, a, Chain(first+i), Chain(other+i))
	}
	return a
}

// Rivals returns three diagrams over MaxBit variables, with the leaves 0 and 1, that ask for some bits each, the first one from a variable on, and keep them in mind. Where it depends on the bits of the first one what it is, both others are 0. Where it depends on the bits of another one what that is, the first one does not choose it: by 1 it chooses the second one, by 0 the third one. So each triple of references has the same choice, which is returned too.
func Rivals(first, bits int) (rivals [3]api.Mtbdd, choice api.Mtbdd) {
	at := first + 3*bits
	own := func(i int) api.Mtbdd { return Same(first+i*bits, at+2, bits) }
	parts := func(both, one, none api.Mtbdd) api.Mtbdd {
		return Joined(func(l []int) int {
			switch {
			case l[0] == 0:
				return l[4]
			case l[1] == 0:
				return l[3]
			}
			return l[2]
		}, Chain(at), Chain(at+1), both, one, none)
	}
	yes := Chain()
	no := Joined(func(l []int) int { return 0 }, yes)
	rivals = [3]api.Mtbdd{parts(yes, no, own(0)), parts(yes, own(1), no), parts(own(2), yes, no)}
	return rivals, Chain(at)
}
