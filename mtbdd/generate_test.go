package mtbdd_test

import (
	"math/big"
	"math/rand"
	"slices"
	"testing"

	"keyhole/api"
	"keyhole/mtbdd"
	"keyhole/sample"
)

type world = sample.World

var (
	binary = sample.Binary
	equal  = sample.IsSame
)

// function returns a random function; some have few values, some many, some great ones.
func function(r *rand.Rand, w world) []int {
	ranges := [][]int{{0, 1}, {-1, 0, 1, 2}, {-7, -3, -2, 0, 2, 3, 5, 6}, {-api.MaxValue, 1 - api.MaxValue, -1, 0, 1, 1 << 39, api.MaxValue}, {-1 << 20, 1 << 20, 3, 1<<20 + 1}}
	values := ranges[r.Intn(len(ranges))]
	if r.Intn(6) == 0 {
		values = nil
		for range 40 {
			values = append(values, r.Intn(2*api.MaxValue+1)-api.MaxValue)
		}
	}
	return sample.Function(w, r.Intn, func() int { return values[r.Intn(len(values))] })
}

// truths returns a random function with the values 0 and 1.
func truths(r *rand.Rand, w world) []int {
	often := []int{1, 4, 8, 12, 15}[r.Intn(5)]
	return sample.Function(w, r.Intn, func() int { return number(r.Intn(16) < often) })
}

// functions calls visit with all functions with the given values.
func functions(w world, values []int, visit func(table []int)) {
	var extend func(table []int)
	extend = func(table []int) {
		if len(table) == 1<<len(w.Over) {
			visit(slices.Clone(table))
			return
		}
		for _, x := range values {
			extend(append(table, x))
		}
	}
	extend(nil)
}

// draw returns the diagram of a function.
func draw(w world, table []int) api.Mtbdd {
	return sample.Reduced(w.Vars, w.Over, table)
}

// truth returns the diagram of a function that is true where it is 1.
func truth(w world, table []int) api.Bdd {
	return binary(draw(w, table))
}

// each calls visit with random worlds.
func each(seed int64, visit func(r *rand.Rand, w world)) {
	r := rand.New(rand.NewSource(seed))
	for range 1500 {
		visit(r, sample.SomeWorld(r.Intn))
	}
}

func number(v bool) int {
	if v {
		return 1
	}
	return 0
}

// isValue reports whether x may be a leaf.
func isValue(x int) bool {
	return -api.MaxValue <= x && x <= api.MaxValue
}

// exact returns the result of an operation, or a number out of range for all that are.
func exact(op, x, y int) int {
	a, b := big.NewInt(int64(x)), big.NewInt(int64(y))
	result := big.NewInt(0)
	switch op {
	case mtbdd.Plus:
		result.Add(a, b)
	case mtbdd.Minus:
		result.Sub(a, b)
	case mtbdd.Times:
		result.Mul(a, b)
	case mtbdd.Over:
		result = floor(a, b)
	case mtbdd.Modulo:
		if y != 0 {
			result.Sub(a, result.Mul(b, floor(a, b)))
		}
	case mtbdd.Least:
		result.SetInt64(int64(min(x, y)))
	case mtbdd.Greatest:
		result.SetInt64(int64(max(x, y)))
	case mtbdd.Less:
		result.SetInt64(int64(number(a.Cmp(b) < 0)))
	case mtbdd.Equal:
		result.SetInt64(int64(number(a.Cmp(b) == 0)))
	}
	if !result.IsInt64() || !isValue(int(result.Int64())) {
		return api.MaxValue + 1
	}
	return int(result.Int64())
}

// floor returns the floor of a / b, or 0 if b is 0.
func floor(a, b *big.Int) *big.Int {
	if b.Sign() == 0 {
		return big.NewInt(0)
	}
	if b.Sign() < 0 {
		a, b = new(big.Int).Neg(a), new(big.Int).Neg(b)
	}
	quotient, _ := new(big.Int).DivMod(a, b, new(big.Int)) // the remainder is from 0 on
	return quotient
}

// code returns the code that a table of values of a result demands.
func code(table []int) api.Code {
	for _, x := range table {
		if !isValue(x) {
			return api.ErrRange
		}
	}
	return api.OK
}

// show tells what a diagram is if it is not the one that is wanted, or of which size if it is large.
func show(t *testing.T, name string, a api.Mtbdd, code api.Code, want api.Mtbdd, wanted api.Code) {
	t.Helper()
	if code == wanted && equal(a, want) {
		return
	}
	if len(a.Nodes)+len(want.Nodes) > 100 {
		t.Fatalf("%s = %d leaves and %d nodes, %d; want %d leaves and %d nodes, %d", name, len(a.Leaves), len(a.Nodes), code, len(want.Leaves), len(want.Nodes), wanted)
	}
	t.Fatalf("%s = %v, %d; want %v, %d", name, a, code, want, wanted)
}

// test is show for the result with a table, which is an error if a value is out of range.
func test(t *testing.T, name string, a api.Mtbdd, failure api.Code, w world, table []int) {
	t.Helper()
	if code(table) != api.OK {
		show(t, name, a, failure, api.Mtbdd{}, api.ErrRange)
		return
	}
	show(t, name, a, failure, draw(w, table), api.OK)
}
