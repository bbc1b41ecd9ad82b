package linear_test

import (
	"math/rand"
	"reflect"
	"slices"
	"testing"

	"keyhole/api"
	"keyhole/linear"
)

// square returns a valid system of the given size in which all numbers are 1.
func square(equations, unknowns int) api.System {
	row := make([]int, unknowns+1)
	for j := range row {
		row[j] = 1
	}
	rows := make([][]int, equations)
	for i := range rows {
		rows[i] = row
	}
	return system(rows...)
}

// invalid returns systems that are not valid.
func invalid() []api.System {
	without, ragged, longer, last := square(2, 2), square(3, 2), square(3, 2), square(80, 80)
	without.B = without.B[:1]
	ragged.A[1] = ragged.A[1][:1]
	longer.A[2] = list(1, 1, 1)
	last.A[79] = last.A[79][:79]
	more := square(1, 1)
	more.B = list(1, 1)
	return []api.System{
		{}, {A: [][]api.Rat{}, B: []api.Rat{}}, {B: list(1)}, {A: [][]api.Rat{{}}, B: list(1)}, {A: [][]api.Rat{nil, nil}, B: list(1, 2)},
		{A: [][]api.Rat{list(1)}}, {A: [][]api.Rat{list(1), nil}, B: list(1, 1)}, {A: [][]api.Rat{nil, list(1)}, B: list(1, 1)},
		without, ragged, longer, last, more, square(81, 1), square(1, 81), square(81, 81),
	}
}

func TestP8_1Valid(t *testing.T) {
	for _, s := range invalid() {
		if linear.Valid(s) {
			t.Errorf("a system with %d equations and right-hand sides %d is valid", len(s.A), len(s.B))
		}
	}
	for _, size := range [][2]int{{1, 1}, {1, 80}, {80, 1}, {80, 80}, {2, 3}} {
		if !linear.Valid(square(size[0], size[1])) {
			t.Errorf("a system of %v is not valid", size)
		}
	}
	if !linear.Valid(api.System{A: [][]api.Rat{make([]api.Rat, 2)}, B: make([]api.Rat, 1)}) {
		t.Error("a system of zeros is not valid")
	}
}

// vectors calls check for short lists of small numbers in any form, of the length n and of other ones.
func vectors(source *rand.Rand, n, count int, check func(x []api.Rat)) {
	for k := range count {
		length := n
		if k%8 == 0 {
			length = source.Intn(n + 3)
		}
		x := make([]api.Rat, length)
		for i := range x {
			den := int64(1 + source.Intn(2))
			if source.Intn(4) == 0 {
				den = -den
			}
			x[i] = fraction((int64(source.Intn(5))-1)*den, den)
		}
		check(x)
	}
}

func TestP8_1PointsAndVectors(t *testing.T) {
	source := rand.New(rand.NewSource(91))
	points, proofs := 0, 0
	check := func(s api.System) {
		vectors(source, len(s.A[0]), 12, func(x []api.Rat) {
			want := isPoint(s, x)
			if got := linear.CheckPoint(s, x); got != want {
				t.Fatalf("CheckPoint(%v, %v) = %t", s, x, got)
			}
			if want {
				points++
			}
		})
		vectors(source, len(s.A), 12, func(y []api.Rat) {
			want := isFarkas(s, y)
			if got := linear.CheckFarkas(s, y); got != want {
				t.Fatalf("CheckFarkas(%v, %v) = %t", s, y, got)
			}
			if want {
				proofs++
			}
		})
	}
	small(1, 2, 1, check)
	small(2, 2, 1, check)
	small(2, 3, 5, check)
	small(3, 2, 11, check)
	if points < 500 || proofs < 500 {
		t.Errorf("only %d points and %d Farkas vectors", points, proofs)
	}
	for _, s := range invalid() {
		for n := range 3 {
			zeros := make([]api.Rat, n)
			if linear.CheckPoint(s, zeros) || linear.CheckFarkas(s, zeros) || linear.CheckPoint(s, list(make([]int, len(s.A))...)) {
				t.Errorf("a point or a vector of the system %v is accepted", s)
			}
		}
	}
}

// TestP8_1Directions checks vectors at the border: those that are accepted only if the sums are compared in the right
// direction, and as they are.
func TestP8_1Directions(t *testing.T) {
	s := system([]int{1, 0, 2}, []int{0, 1, -1})
	for _, c := range []struct {
		y    []api.Rat
		want bool
	}{
		{list(0, 1), true}, {list(0, 0), false}, {list(1, 1), false}, {list(1, 2), false}, {list(1, 3), true}, {list(0, -1), false},
		{list(-1, 1), false}, {list(0), false}, {list(0, 1, 0), false}, {nil, false},
		{[]api.Rat{{}, fraction(-1, -7)}, true}, {[]api.Rat{fraction(5, 0), fraction(2, 4)}, true},
	} {
		if got := linear.CheckFarkas(s, c.y); got != c.want {
			t.Errorf("CheckFarkas(%v) = %t", c.y, got)
		}
	}
	p := system([]int{1, -1, 1})
	for _, c := range []struct {
		x    []api.Rat
		want bool
	}{
		{list(1, 0), true}, {list(0, -1), false}, {list(2, 1), true}, {list(1, 1), false}, {list(1), false}, {list(1, 0, 0), false},
		{[]api.Rat{fraction(-3, -2), fraction(2, 4)}, true}, {[]api.Rat{fraction(1, 1), fraction(9, 0)}, true},
	} {
		if got := linear.CheckPoint(p, c.x); got != c.want {
			t.Errorf("CheckPoint(%v) = %t", c.x, got)
		}
	}
}

func TestP8_1CheckResult(t *testing.T) {
	s := system([]int{1, 1})
	none := system([]int{1, -1})
	for _, c := range []struct {
		s    api.System
		r    api.LinearResult
		want bool
	}{
		{s, api.LinearResult{Feasible: true, X: list(1)}, true},
		{s, api.LinearResult{Feasible: true, X: list(1), Y: []api.Rat{}}, true},
		{s, api.LinearResult{Feasible: true, X: list(1), Y: list(0)}, false},
		{s, api.LinearResult{Feasible: true, X: list(2)}, false},
		{s, api.LinearResult{Feasible: true}, false},
		{s, api.LinearResult{X: list(1)}, false},
		{s, api.LinearResult{Y: list(1)}, false},
		{s, api.LinearResult{}, false},
		{none, api.LinearResult{Y: list(1)}, true},
		{none, api.LinearResult{X: []api.Rat{}, Y: list(3)}, true},
		{none, api.LinearResult{X: list(0), Y: list(1)}, false},
		{none, api.LinearResult{Feasible: true, Y: list(1)}, false},
		{none, api.LinearResult{Y: list(0)}, false},
		{none, api.LinearResult{Y: list(-1)}, false},
		{api.System{}, api.LinearResult{}, false},
		{api.System{}, api.LinearResult{Feasible: true}, false},
	} {
		if got := linear.CheckResult(c.s, c.r); got != c.want || isResult(c.s, c.r) != c.want {
			t.Errorf("CheckResult(%v, %v) = %t", c.s, c.r, got)
		}
	}
}

// mutations calls check for o and for optima that differ from it.
func mutations(source *rand.Rand, o linear.Optimum, check func(o linear.Optimum)) {
	check(o)
	for _, kind := range []linear.Kind{-1, 0, 1, 2, 3} {
		changed := o
		changed.Kind = kind
		check(changed)
	}
	for k := range 3 {
		lists := [3][]api.Rat{o.X, o.Y, o.Ray}
		for _, other := range [][]api.Rat{nil, {}, list(0), append(slices.Clone(lists[k]), fraction(0, 1)), scaled(lists[k], fraction(2, 1)),
			scaled(lists[k], fraction(-1, 1)), lists[(k+1)%3]} {
			lists[k] = other
			check(linear.Optimum{Kind: o.Kind, X: lists[0], Y: lists[1], Ray: lists[2], Value: o.Value})
		}
	}
	for _, value := range []api.Rat{{}, number(source), fraction(0, 5), scaled([]api.Rat{o.Value}, fraction(-1, 1))[0]} {
		changed := o
		changed.Value = value
		check(changed)
	}
}

func TestP8_1CheckOptimum(t *testing.T) {
	source := rand.New(rand.NewSource(92))
	accepted := map[linear.Kind]int{}
	for range 250 {
		s := random(source, 1+source.Intn(3), 1+source.Intn(3))
		cost := numbers(source, len(s.A[0]))
		o, _ := linear.Minimize(s, cost)
		mutations(source, o, func(o linear.Optimum) {
			want := isOptimum(s, cost, o)
			if got := linear.CheckOptimum(s, cost, o); got != want {
				t.Fatalf("CheckOptimum(%v, %v, %v) = %t", s, cost, o, got)
			}
			if want {
				accepted[o.Kind]++
			}
			if linear.CheckOptimum(s, cost[1:], o) || linear.CheckOptimum(s, append(slices.Clone(cost), api.Rat{}), o) {
				t.Fatalf("CheckOptimum(%v, %v, %v) accepts another number of costs", s, cost, o)
			}
		})
	}
	for _, s := range invalid() {
		for n := range 3 {
			mutations(source, linear.Optimum{}, func(o linear.Optimum) {
				if linear.CheckOptimum(s, make([]api.Rat, n), o) {
					t.Errorf("CheckOptimum accepts an optimum of %v", s)
				}
			})
		}
	}
	if accepted[linear.Infeasible] < 50 || accepted[linear.Unbounded] < 50 || accepted[linear.Bounded] < 50 {
		t.Errorf("accepted: %v", accepted)
	}
}

// TestP8_1OptimumFields checks each condition of each kind alone.
func TestP8_1OptimumFields(t *testing.T) {
	none, line, diagonal := system([]int{1, 1, -1}), system([]int{1, 1, 3}), system([]int{1, -1, 0})
	three, zero := fraction(3, 1), fraction(0, 4)
	for i, c := range []struct {
		s    api.System
		cost []api.Rat
		o    linear.Optimum
		want bool
	}{
		{none, list(1, 1), linear.Optimum{Y: list(2), Value: zero}, true},
		{none, list(1, 1), linear.Optimum{Y: list(2), Value: three}, false},
		{none, list(1, 1), linear.Optimum{Y: list(2), X: list(0, 0)}, false},
		{none, list(1, 1), linear.Optimum{Y: list(2), Ray: list(0, 0)}, false},
		{none, list(1, 1), linear.Optimum{Y: list(-2)}, false},
		{none, list(1, 1), linear.Optimum{Y: list(2), X: []api.Rat{}, Ray: []api.Rat{}}, true},
		{diagonal, list(-1, 0), linear.Optimum{Kind: linear.Unbounded, X: list(2, 2), Ray: list(3, 3), Value: zero}, true},
		{diagonal, list(-1, 0), linear.Optimum{Kind: linear.Unbounded, X: list(2, 2), Ray: list(3, 3), Value: three}, false},
		{diagonal, list(-1, 0), linear.Optimum{Kind: linear.Unbounded, X: list(2, 2), Ray: list(3, 3), Y: list(0)}, false},
		{diagonal, list(-1, 0), linear.Optimum{Kind: linear.Unbounded, X: list(2, 1), Ray: list(3, 3)}, false},
		{diagonal, list(-1, 0), linear.Optimum{Kind: linear.Unbounded, X: list(2, 2), Ray: list(3, 2)}, false},
		{diagonal, list(-1, 0), linear.Optimum{Kind: linear.Unbounded, X: list(2, 2), Ray: list(0, 0)}, false},
		{diagonal, list(-1, 1), linear.Optimum{Kind: linear.Unbounded, X: list(2, 2), Ray: list(1, 1)}, false},
		{diagonal, list(1, 0), linear.Optimum{Kind: linear.Unbounded, X: list(2, 2), Ray: list(-1, -1)}, false},
		{diagonal, list(-1, 0), linear.Optimum{Kind: linear.Unbounded, X: list(2, 2), Ray: list(1)}, false},
		{line, list(2, 1), linear.Optimum{Kind: linear.Bounded, X: list(0, 3), Y: list(1), Value: fraction(-6, -2)}, true},
		{line, list(2, 1), linear.Optimum{Kind: linear.Bounded, X: list(0, 3), Y: list(1), Value: three, Ray: list(0, 0)}, false},
		{line, list(2, 1), linear.Optimum{Kind: linear.Bounded, X: list(0, 3), Y: list(1), Value: fraction(2, 1)}, false},
		{line, list(2, 1), linear.Optimum{Kind: linear.Bounded, X: list(3, 0), Y: list(2), Value: fraction(6, 1)}, false},
		{line, list(2, 1), linear.Optimum{Kind: linear.Bounded, X: list(3, 0), Y: list(1), Value: fraction(6, 1)}, false},
		{line, list(2, 1), linear.Optimum{Kind: linear.Bounded, X: list(3, 0), Y: list(1), Value: three}, false},
		{line, list(2, 1), linear.Optimum{Kind: linear.Bounded, X: list(0, 3), Y: list(0), Value: three}, false},
		{line, list(2, 1), linear.Optimum{Kind: linear.Bounded, X: list(0, 3), Y: list(1, 0), Value: three}, false},
		{line, list(2, 1), linear.Optimum{Kind: linear.Bounded, X: list(0, 3), Value: three}, false},
		{line, list(2, 1), linear.Optimum{Kind: linear.Bounded, X: list(-1, 4), Y: list(1), Value: fraction(2, 1)}, false},
		{line, list(2, 1), linear.Optimum{Kind: 3, X: list(0, 3), Y: list(1), Value: three}, false},
		{line, list(2, 1), linear.Optimum{Kind: -1, X: list(0, 3), Y: list(1), Value: three}, false},
	} {
		if got := linear.CheckOptimum(c.s, c.cost, c.o); got != c.want {
			t.Errorf("case %d: %t", i, got)
		}
	}
}

// copied returns a deep copy of s.
func copied(s api.System) api.System {
	result := api.System{B: copies(s.B)}
	for _, row := range s.A {
		result.A = append(result.A, copies(row))
	}
	return result
}

func copies(l []api.Rat) []api.Rat {
	result := make([]api.Rat, len(l))
	for i, x := range l {
		result[i] = api.Rat{
			Num: api.Int{Negative: x.Num.Negative, Words: slices.Clone(x.Num.Words)},
			Den: api.Int{Negative: x.Den.Negative, Words: slices.Clone(x.Den.Words)},
		}
	}
	return result
}

// words returns the lists of words of all numbers.
func words(lists ...[]api.Rat) [][]uint32 {
	var result [][]uint32
	for _, l := range lists {
		for _, x := range l {
			for _, w := range [][]uint32{x.Num.Words, x.Den.Words} {
				result = append(result, w[:cap(w)])
			}
		}
	}
	return result
}

// expectUnshared fails if a change of one number changes another one, or the system.
func expectUnshared(t *testing.T, s api.System, lists ...[]api.Rat) {
	t.Helper()
	all := words(append(append(lists, s.B), s.A...)...)
	for i, list := range all {
		for k := range list {
			list[k] = uint32(i)
		}
	}
	for i, list := range all {
		for _, w := range list {
			if w != uint32(i) {
				t.Fatalf("the numbers %d and %d share memory", i, w)
			}
		}
	}
}

func TestMemory(t *testing.T) {
	source := rand.New(rand.NewSource(93))
	for range 200 {
		s := random(source, 1+source.Intn(4), 1+source.Intn(5))
		cost := numbers(source, len(s.A[0]))
		before, price := copied(s), copies(cost)
		r, _ := linear.Solve(s)
		o, _ := linear.Minimize(s, cost)
		linear.CheckResult(s, r)
		linear.CheckOptimum(s, cost, o)
		linear.CheckPoint(s, r.X)
		linear.CheckFarkas(s, r.Y)
		if !reflect.DeepEqual(copied(s), before) || !reflect.DeepEqual(copies(cost), price) {
			t.Fatalf("the arguments %v, %v have been changed", before, price)
		}
		again, _ := linear.Minimize(s, cost)
		if !reflect.DeepEqual(o, again) {
			t.Fatalf("%v and %v for the same arguments", o, again)
		}
		expectUnshared(t, s, r.X, r.Y, o.X, o.Y, o.Ray, []api.Rat{o.Value}, cost)
	}
}
