package domain_test

import (
	"math/big"
	"math/rand"
	"slices"

	"keyhole/api"
)

var kinds = []api.Kind{api.Local, api.Secret, api.Public, api.Random}

// codeOf returns the code of the errors that all functions have in common, by the sentences of the chapter.
func codeOf(vars []api.Var, kind api.Kind) api.Code {
	if !slices.Contains(kinds, kind) {
		return api.ErrArgument
	}
	count := big.NewInt(1)
	for _, v := range vars {
		if v.Kind != kind {
			continue
		}
		if v.Low > v.High || v.Low < -1048576 || v.High > 1048576 {
			return api.ErrRange
		}
		count.Mul(count, big.NewInt(int64(v.High-v.Low+1)))
	}
	if count.Cmp(big.NewInt(4096)) > 0 {
		return api.ErrLimit
	}
	return api.OK
}

// vectorsOf returns the vectors of a kind in order.
func vectorsOf(vars []api.Var, kind api.Kind) [][]int {
	list := [][]int{{}}
	for _, v := range vars {
		if v.Kind != kind {
			continue
		}
		var longer [][]int
		for value := v.High; value >= v.Low; value-- {
			for _, vector := range list {
				longer = append(longer, append(slices.Clone(vector), value))
			}
		}
		list = longer
	}
	slices.SortFunc(list, slices.Compare)
	return list
}

// between reports whether each element of the vector is between those of low and high.
func between(vector, low, high []int) bool {
	for i, value := range vector {
		if value < low[i] || value > high[i] {
			return false
		}
	}
	return true
}

// generator makes random variables and vectors.
type generator struct {
	*rand.Rand
}

func newGenerator(seed int64) generator {
	return generator{rand.New(rand.NewSource(seed))}
}

func pick[T any](g generator, list ...T) T {
	return list[g.Intn(len(list))]
}

// variable returns a variable with few values.
func (g generator) variable() api.Var {
	low := pick(g, 0, 0, 1, -1, -7, 5, 1<<20-8, -1<<20)
	return api.Var{Name: pick(g, "", "a", "b"), Kind: pick(g, kinds...), Low: low, High: low + pick(g, 0, 0, 1, 1, 2, 3, 7), Init: g.Intn(3)}
}

// vars returns variables that are often valid.
func (g generator) vars() []api.Var {
	var list []api.Var
	for range g.Intn(12) {
		list = append(list, g.variable())
	}
	for i := range list {
		switch g.Intn(40) {
		case 0:
			list[i].Low = pick(g, -1<<20, -1<<20-1, list[i].High, list[i].High+1, 1<<62, -1<<63)
		case 1:
			list[i].High = pick(g, 1<<20, 1<<20+1, list[i].Low, list[i].Low-1, list[i].Low+4095, list[i].Low+4096, 1<<63-1, -1<<63)
		case 2:
			list[i].Kind = pick[api.Kind](g, -1, 4, 1<<62)
		}
	}
	return list
}

// valid returns variables of which at most 4096 vectors of each kind exist.
func (g generator) valid() []api.Var {
	for {
		vars := g.vars()
		if !slices.ContainsFunc(kinds, func(kind api.Kind) bool { return codeOf(vars, kind) != api.OK }) {
			return vars
		}
	}
}

// wrong returns the vector with another number of elements, or with an element that may be out of the bounds.
func (g generator) wrong(vector []int) []int {
	vector = slices.Clone(vector)
	switch {
	case len(vector) == 0 || g.Intn(4) == 0:
		return append(vector, g.Intn(2))
	case g.Intn(3) == 0:
		return vector[1:]
	}
	vector[g.Intn(len(vector))] += pick(g, -1, 1, -8, 8, 1<<20, -1<<20, 1<<62, -1<<62)
	return vector
}
