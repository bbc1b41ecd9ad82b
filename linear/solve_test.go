package linear_test

import (
	"math/big"
	"math/rand"
	"slices"
	"testing"

	"keyhole/api"
	"keyhole/linear"
)

func TestP8_2SolveSmall(t *testing.T) {
	check := func(s api.System) { expectSolved(t, s, len(vertices(s)) > 0) }
	small(1, 1, 1, check)
	small(1, 3, 1, check)
	small(2, 2, 1, check)
	small(3, 1, 1, check)
	small(2, 3, 2, check)
	small(3, 3, 701, check)
	small(3, 4, 14009, check)
}

func TestP8_2SolveRandom(t *testing.T) {
	source := rand.New(rand.NewSource(81))
	for range 1500 {
		s := random(source, 1+source.Intn(5), 1+source.Intn(6))
		expectSolved(t, s, len(vertices(s)) > 0)
	}
}

func TestP8_2SolveErrors(t *testing.T) {
	for _, s := range invalid() {
		r, code := linear.Solve(s)
		if code != api.ErrArgument || r.Feasible || len(r.X) != 0 || len(r.Y) != 0 {
			t.Errorf("Solve(%v) = %v, %d", s, r, code)
		}
	}
}

// costs calls check for some costs of n unknowns.
func costs(source *rand.Rand, n int, check func(cost []api.Rat)) {
	check(make([]api.Rat, n))
	for range 3 {
		check(numbers(source, n))
	}
}

func TestP8_4MinimizeSmall(t *testing.T) {
	source := rand.New(rand.NewSource(82))
	check := func(s api.System) {
		costs(source, len(s.A[0]), func(cost []api.Rat) {
			kind, value := least(s, cost)
			expectLeast(t, s, cost, kind, value)
		})
	}
	small(1, 1, 1, check)
	small(1, 3, 1, check)
	small(2, 2, 1, check)
	small(3, 1, 1, check)
	small(2, 3, 7, check)
	small(3, 3, 3011, check)
	small(3, 4, 30011, check)
}

func TestP8_4MinimizeRandom(t *testing.T) {
	source := rand.New(rand.NewSource(83))
	kinds := map[linear.Kind]int{}
	for range 1000 {
		s := random(source, 1+source.Intn(5), 1+source.Intn(6))
		cost := numbers(source, len(s.A[0]))
		kind, value := least(s, cost)
		expectLeast(t, s, cost, kind, value)
		kinds[kind]++
	}
	for _, kind := range []linear.Kind{linear.Infeasible, linear.Unbounded, linear.Bounded} {
		if kinds[kind] < 50 {
			t.Errorf("only %d systems of the kind %d", kinds[kind], kind)
		}
	}
}

func TestP8_4MinimizeErrors(t *testing.T) {
	isZero := func(o linear.Optimum) bool {
		return o.Kind == 0 && len(o.X)+len(o.Y)+len(o.Ray)+len(o.Value.Num.Words)+len(o.Value.Den.Words) == 0
	}
	for _, s := range invalid() {
		for n := range 3 {
			if o, code := linear.Minimize(s, make([]api.Rat, n)); code != api.ErrArgument || !isZero(o) {
				t.Errorf("Minimize(%v, %d zeros) = %v, %d", s, n, o, code)
			}
		}
	}
	for n := range 5 {
		s := system([]int{1, 1, 3})
		if o, code := linear.Minimize(s, make([]api.Rat, n)); n != 2 && (code != api.ErrMismatch || !isZero(o)) {
			t.Errorf("Minimize with %d costs = %v, %d", n, o, code)
		}
	}
}

// TestP8_4Cycles solves systems on which rules that take the cheapest unknown alone repeat a basis.
func TestP8_4Cycles(t *testing.T) {
	ratio := func(numbers ...int64) []api.Rat {
		var l []api.Rat
		for i := 0; i < len(numbers); i += 2 {
			l = append(l, fraction(numbers[i], numbers[i+1]))
		}
		return l
	}
	beale := api.System{A: [][]api.Rat{
		ratio(1, 4, -60, 1, -1, 25, 9, 1, 1, 1, 0, 1, 0, 1),
		ratio(1, 2, -90, 1, -1, 50, 3, 1, 0, 1, 1, 1, 0, 1),
		ratio(0, 1, 0, 1, 1, 1, 0, 1, 0, 1, 0, 1, 1, 1),
	}, B: list(0, 0, 1)}
	expectLeast(t, beale, ratio(-3, 4, 150, 1, -1, 50, 6, 1, 0, 1, 0, 1, 0, 1), linear.Bounded, big.NewRat(-1, 20))
	chvatal := api.System{A: [][]api.Rat{
		ratio(1, 2, -11, 2, -5, 2, 9, 1, 1, 1, 0, 1, 0, 1),
		ratio(1, 2, -3, 2, -1, 2, 1, 1, 0, 1, 1, 1, 0, 1),
		ratio(1, 1, 0, 1, 0, 1, 0, 1, 0, 1, 0, 1, 1, 1),
	}, B: list(0, 0, 1)}
	expectLeast(t, chvatal, list(-10, 57, 9, 24, 0, 0, 0), linear.Bounded, big.NewRat(-1, 1))
	marshall := api.System{A: [][]api.Rat{
		ratio(1, 2, -11, 2, -5, 2, 9, 1, 1, 1, 0, 1),
		ratio(1, 2, -3, 2, -1, 2, 1, 1, 0, 1, 1, 1),
	}, B: list(0, 0)}
	expectLeast(t, marshall, list(-10, 57, 9, 24, 0, 0), linear.Unbounded, new(big.Rat))
	// With the unknowns in the opposite order, the other one of two rows is preferred to each other.
	for i, row := range marshall.A {
		marshall.A[i] = permuted(row, []int{5, 4, 3, 2, 1, 0})
	}
	expectLeast(t, marshall, list(0, 0, 24, 9, 57, -10), linear.Unbounded, new(big.Rat))
}

// TestP8_4Degenerate solves transport systems in which every vertex has many numbers that are zero, and all equations but
// one follow from the others.
func TestP8_4Degenerate(t *testing.T) {
	for n := 1; n <= 8; n++ {
		var s api.System
		for i := range n {
			rows, columns := make([]int, n*n), make([]int, n*n)
			for k := range n {
				rows[i*n+k], columns[k*n+i] = 1, 1
			}
			s.A = append(s.A, list(rows...), list(columns...))
			s.B = append(s.B, list(1, 1)...)
		}
		cost := make([]int, n*n)
		for i := range cost {
			cost[i] = (i/n + 1) * (i%n + 1)
		}
		// Each i is assigned to n + 1 - i.
		expectLeast(t, s, list(cost...), linear.Bounded, big.NewRat(int64(n*(n+1)*(n+2)/6), 1))
	}
}

// TestP8_4KleeMinty minimizes over a cube that is squeezed so that there is a path of falling cost through all vertices.
func TestP8_4KleeMinty(t *testing.T) {
	n := 8
	var s api.System
	cost := make([]int, 2*n)
	power := 1
	for i := range n {
		row := make([]int, 2*n)
		factor := 4
		for j := i - 1; j >= 0; j-- {
			row[j] = factor
			factor *= 2
		}
		row[i], row[n+i] = 1, 1
		power *= 5
		s.A, s.B = append(s.A, list(row...)), append(s.B, list(power)...)
		cost[i] = -1 << (n - 1 - i)
	}
	expectLeast(t, s, list(cost...), linear.Bounded, big.NewRat(int64(-power), 1))
}

// large returns a system at the limits. Its point has the given value of every third unknown, and is zero otherwise.
func large(seed int64, equations, unknowns, magnitude, density int) (api.System, []api.Rat) {
	source := rand.New(rand.NewSource(seed))
	x := make([]api.Rat, unknowns)
	for j := range x {
		x[j] = fraction(int64(source.Intn(magnitude)*(1-min(1, source.Intn(3)))), 1)
	}
	var s api.System
	for range equations {
		row := make([]int, unknowns)
		for j := range row {
			if source.Intn(100) < density {
				row[j] = source.Intn(2*magnitude+1) - magnitude
			}
		}
		s.A = append(s.A, list(row...))
		s.B = append(s.B, rat(dot(s.A[len(s.A)-1], x)))
	}
	return s, x
}

func TestP8_4Limits(t *testing.T) {
	for _, c := range []struct{ equations, unknowns, magnitude, density int }{
		{80, 80, 9, 8}, {40, 80, 9, 100}, {80, 20, 1000, 50}, {80, 1, 9, 100}, {1, 80, 1 << 20, 100}, {60, 80, 1, 100},
	} {
		s, x := large(int64(c.equations), c.equations, c.unknowns, c.magnitude, c.density)
		expectSolved(t, s, true)
		var cost []int
		for j := range c.unknowns {
			cost = append(cost, (j*37)%11)
		}
		o, code := linear.Minimize(s, list(cost...))
		if code != api.OK || o.Kind != linear.Bounded || !isOptimum(s, list(cost...), o) || value(o.Value).Cmp(dot(list(cost...), x)) > 0 {
			t.Errorf("%v: kind %d, value %v, code %d", c, o.Kind, value(o.Value), code)
		}
		for i := range s.A {
			// An equation with no number below zero but on the right-hand side cannot hold.
			s.A[i] = list(make([]int, c.unknowns)...)
			s.A[i][i%c.unknowns], s.B[i] = fraction(1, 1), fraction(-1, 1)
			break
		}
		expectSolved(t, s, false)
	}
}

func TestP8_3NotBoth(t *testing.T) {
	candidates := func(n int, from int) [][]api.Rat {
		lists := [][]api.Rat{{}}
		for range n {
			var longer [][]api.Rat
			for _, head := range lists {
				for k := from; k <= 4; k++ {
					longer = append(longer, append(slices.Clone(head), fraction(int64(k), 2)))
				}
			}
			lists = longer
		}
		return lists
	}
	check := func(s api.System) {
		points := slices.ContainsFunc(candidates(len(s.A[0]), 0), func(x []api.Rat) bool { return linear.CheckPoint(s, x) })
		vectors := slices.ContainsFunc(candidates(len(s.A), -4), func(y []api.Rat) bool { return linear.CheckFarkas(s, y) })
		r, _ := linear.Solve(s)
		if points && (vectors || !r.Feasible) || vectors && r.Feasible {
			t.Fatalf("%v: point %t, Farkas vector %t", s, points, vectors)
		}
	}
	small(1, 2, 1, check)
	small(2, 2, 3, check)
	small(2, 1, 1, check)
}

func TestP8_5Least(t *testing.T) {
	source := rand.New(rand.NewSource(85))
	for range 400 {
		s := random(source, 1+source.Intn(3), 1+source.Intn(5))
		costs(source, len(s.A[0]), func(cost []api.Rat) {
			o, _ := linear.Minimize(s, cost)
			r, _ := linear.Solve(s)
			if (o.Kind == linear.Infeasible) == r.Feasible {
				t.Fatalf("%v: kind %d, feasible %t", s, o.Kind, r.Feasible)
			}
			if o.Kind != linear.Bounded {
				return
			}
			for _, x := range vertices(s) {
				if weigh(cost, x).Cmp(value(o.Value)) < 0 {
					t.Fatalf("%v: a point costs less than %v", s, value(o.Value))
				}
			}
		})
	}
}

// TestP8_5Unique gives the unknowns and the equations in another order, which leads to other pivots.
func TestP8_5Unique(t *testing.T) {
	source := rand.New(rand.NewSource(86))
	for range 300 {
		s := random(source, 1+source.Intn(4), 1+source.Intn(6))
		cost := numbers(source, len(s.A[0]))
		o, _ := linear.Minimize(s, cost)
		order, equations := source.Perm(len(cost)), source.Perm(len(s.A))
		other := api.System{}
		for _, i := range equations {
			other.A = append(other.A, permuted(s.A[i], order))
			other.B = append(other.B, s.B[i])
		}
		p := expectLeast(t, other, permuted(cost, order), o.Kind, value(o.Value))
		back := make([]int, len(order))
		for i, j := range order {
			back[j] = i
		}
		if p.Kind != linear.Infeasible && !linear.CheckPoint(s, permuted(p.X, back)) {
			t.Fatalf("%v is no point of %v", permuted(p.X, back), s)
		}
	}
}

func permuted(l []api.Rat, order []int) []api.Rat {
	var result []api.Rat
	for _, i := range order {
		result = append(result, l[i])
	}
	return result
}

func TestP8_6Equations(t *testing.T) {
	source := rand.New(rand.NewSource(87))
	for range 400 {
		s := random(source, 2+source.Intn(3), 1+source.Intn(5))
		cost := numbers(source, len(s.A[0]))
		o, _ := linear.Minimize(s, cost)
		i, j := source.Intn(len(s.A)), source.Intn(len(s.A))
		sum := extended(s, added(s.A[i], s.A[j]), added(s.B[i:i+1], s.B[j:j+1])[0])
		expectLeast(t, sum, cost, o.Kind, value(o.Value))
		factor := number(source)
		multiple := extended(s, scaled(s.A[i], factor), scaled(s.B[i:i+1], factor)[0])
		expectLeast(t, multiple, cost, o.Kind, value(o.Value))
		more := extended(s, numbers(source, len(cost)), number(source))
		p, _ := linear.Minimize(more, cost)
		switch {
		case p.Kind == linear.Infeasible:
		case o.Kind == linear.Infeasible || !linear.CheckPoint(s, p.X):
			t.Fatalf("%v has the point %v by a further equation", s, p.X)
		case o.Kind == linear.Bounded && (p.Kind != linear.Bounded || value(p.Value).Cmp(value(o.Value)) < 0):
			t.Fatalf("%v: the least cost %v falls to %v by a further equation", s, value(o.Value), value(p.Value))
		}
	}
}

func added(a, b []api.Rat) []api.Rat {
	var result []api.Rat
	for i := range a {
		result = append(result, rat(new(big.Rat).Add(value(a[i]), value(b[i]))))
	}
	return result
}

func extended(s api.System, row []api.Rat, b api.Rat) api.System {
	return api.System{A: append(slices.Clone(s.A), row), B: append(slices.Clone(s.B), b)}
}

func TestExamples(t *testing.T) {
	only := system([]int{1, 1, 3}, []int{1, -1, 1})
	r, code := linear.Solve(only)
	if code != api.OK || !r.Feasible || value(r.X[0]).Cmp(big.NewRat(2, 1)) != 0 || value(r.X[1]).Cmp(big.NewRat(1, 1)) != 0 {
		t.Errorf("Solve = %v, %d", r, code)
	}
	none := system([]int{1, -1})
	if !linear.CheckFarkas(none, list(1)) {
		t.Error("(1) is no Farkas vector")
	}
	expectSolved(t, none, false)
	line := system([]int{1, 1, 3})
	expectLeast(t, line, list(2, 1), linear.Bounded, big.NewRat(3, 1))
	if !linear.CheckOptimum(line, list(2, 1), linear.Optimum{Kind: linear.Bounded, X: list(0, 3), Y: list(1), Value: fraction(3, 1)}) {
		t.Error("the least cost 3 is not accepted")
	}
	diagonal := system([]int{1, -1, 0})
	expectLeast(t, diagonal, list(-1, 0), linear.Unbounded, new(big.Rat))
	if !linear.CheckOptimum(diagonal, list(-1, 0), linear.Optimum{Kind: linear.Unbounded, X: list(0, 0), Ray: list(1, 1)}) {
		t.Error("the ray (1, 1) is not accepted")
	}
}
