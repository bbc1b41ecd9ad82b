package linear_test

import (
	"math/big"
	"math/rand"
	"slices"
	"testing"

	"keyhole/api"
	"keyhole/linear"
)

// The model calculates with math/big and follows the definitions of the chapter.

// value returns the value of x by its definition, whatever its form is.
func value(x api.Rat) *big.Rat {
	num, den := whole(x.Num), whole(x.Den)
	if den.Sign() == 0 {
		return new(big.Rat)
	}
	return new(big.Rat).SetFrac(num, den)
}

func whole(x api.Int) *big.Int {
	v := new(big.Int)
	for _, w := range slices.Backward(x.Words) {
		v.Lsh(v, 32)
		v.Or(v, big.NewInt(int64(w)))
	}
	if x.Negative {
		v.Neg(v)
	}
	return v
}

func wholeOf(v *big.Int) api.Int {
	x := api.Int{Negative: v.Sign() < 0}
	for m := new(big.Int).Abs(v); m.Sign() > 0; m.Rsh(m, 32) {
		x.Words = append(x.Words, uint32(m.Uint64()))
	}
	return x
}

// fraction returns num / den, not reduced.
func fraction(num, den int64) api.Rat {
	return api.Rat{Num: wholeOf(big.NewInt(num)), Den: wholeOf(big.NewInt(den))}
}

// list returns the fractions of whole numbers.
func list(numbers ...int) []api.Rat {
	result := make([]api.Rat, len(numbers))
	for i, n := range numbers {
		result[i] = fraction(int64(n), 1)
	}
	return result
}

// system returns the system whose rows are the coefficients of the equations and, last, the right-hand sides.
func system(rows ...[]int) api.System {
	var s api.System
	for _, row := range rows {
		last := len(row) - 1
		s.A = append(s.A, list(row[:last]...))
		s.B = append(s.B, list(row[last])...)
	}
	return s
}

// dot returns the sum of the products of a and b.
func dot(a, b []api.Rat) *big.Rat {
	sum := new(big.Rat)
	for i := range a {
		sum.Add(sum, new(big.Rat).Mul(value(a[i]), value(b[i])))
	}
	return sum
}

// isValid is the definition of a valid system.
func isValid(s api.System) bool {
	if len(s.A) == 0 || len(s.A) > 80 || len(s.B) != len(s.A) || len(s.A[0]) == 0 || len(s.A[0]) > 80 {
		return false
	}
	return !slices.ContainsFunc(s.A, func(row []api.Rat) bool { return len(row) != len(s.A[0]) })
}

func columnOf(s api.System, j int) []api.Rat {
	var column []api.Rat
	for _, row := range s.A {
		column = append(column, row[j])
	}
	return column
}

func isPoint(s api.System, x []api.Rat) bool {
	if !isValid(s) || len(x) != len(s.A[0]) {
		return false
	}
	for _, n := range x {
		if value(n).Sign() < 0 {
			return false
		}
	}
	for i, row := range s.A {
		if dot(row, x).Cmp(value(s.B[i])) != 0 {
			return false
		}
	}
	return true
}

func isFarkas(s api.System, y []api.Rat) bool {
	if !isValid(s) || len(y) != len(s.A) || dot(y, s.B).Sign() >= 0 {
		return false
	}
	for j := range s.A[0] {
		if dot(y, columnOf(s, j)).Sign() < 0 {
			return false
		}
	}
	return true
}

func isDual(s api.System, cost, y []api.Rat) bool {
	if len(y) != len(s.A) {
		return false
	}
	for j := range cost {
		if dot(y, columnOf(s, j)).Cmp(value(cost[j])) > 0 {
			return false
		}
	}
	return true
}

func isRay(s api.System, cost, ray []api.Rat) bool {
	zero := api.System{A: s.A, B: make([]api.Rat, len(s.A))}
	return isPoint(zero, ray) && dot(cost, ray).Sign() < 0
}

func isResult(s api.System, r api.LinearResult) bool {
	if r.Feasible {
		return isPoint(s, r.X) && len(r.Y) == 0
	}
	return isFarkas(s, r.Y) && len(r.X) == 0
}

func isOptimum(s api.System, cost []api.Rat, o linear.Optimum) bool {
	if !isValid(s) || len(cost) != len(s.A[0]) {
		return false
	}
	least := value(o.Value)
	switch o.Kind {
	case linear.Infeasible:
		return isFarkas(s, o.Y) && len(o.X) == 0 && len(o.Ray) == 0 && least.Sign() == 0
	case linear.Unbounded:
		return isPoint(s, o.X) && isRay(s, cost, o.Ray) && len(o.Y) == 0 && least.Sign() == 0
	case linear.Bounded:
		return isPoint(s, o.X) && isDual(s, cost, o.Y) && len(o.Ray) == 0 && dot(cost, o.X).Cmp(least) == 0 && dot(o.Y, s.B).Cmp(least) == 0
	}
	return false
}

// vertices returns the points of s with as few numbers above zero as possible: those whose columns are independent. They are
// found by trying all sets of columns.
func vertices(s api.System) [][]*big.Rat {
	var result [][]*big.Rat
	unknowns := len(s.A[0])
	for set := range 1 << unknowns {
		var columns []int
		for j := range unknowns {
			if set>>j&1 == 1 {
				columns = append(columns, j)
			}
		}
		x, only := onlySolution(s, columns)
		if only && !slices.ContainsFunc(x, func(n *big.Rat) bool { return n.Sign() < 0 }) {
			result = append(result, x)
		}
	}
	return result
}

// onlySolution returns the solution of the equations of s in which only the unknowns of the columns are not zero, if there
// is exactly one.
func onlySolution(s api.System, columns []int) ([]*big.Rat, bool) {
	var rows [][]*big.Rat
	for i := range s.A {
		var row []*big.Rat
		for _, j := range columns {
			row = append(row, value(s.A[i][j]))
		}
		rows = append(rows, append(row, value(s.B[i])))
	}
	for k := range columns {
		at := slices.IndexFunc(rows[min(k, len(rows)):], func(row []*big.Rat) bool { return row[k].Sign() != 0 })
		if at < 0 {
			return nil, false
		}
		rows[k], rows[k+at] = rows[k+at], rows[k]
		clear(rows, k)
	}
	for _, row := range rows[len(columns):] {
		if row[len(columns)].Sign() != 0 {
			return nil, false
		}
	}
	x := make([]*big.Rat, len(s.A[0]))
	for j := range x {
		x[j] = new(big.Rat)
	}
	for k, j := range columns {
		x[j].Quo(rows[k][len(columns)], rows[k][k])
	}
	return x, true
}

// clear makes the column k of all rows zero but in the row k.
func clear(rows [][]*big.Rat, k int) {
	for i, row := range rows {
		if i == k || row[k].Sign() == 0 {
			continue
		}
		factor := new(big.Rat).Quo(row[k], rows[k][k])
		for j := range row {
			row[j] = new(big.Rat).Sub(row[j], new(big.Rat).Mul(factor, rows[k][j]))
		}
	}
}

// least returns the kind and the value of the optimum of s, found among its vertices and among those rays whose numbers
// have the sum 1.
func least(s api.System, cost []api.Rat) (linear.Kind, *big.Rat) {
	points := vertices(s)
	if len(points) == 0 {
		return linear.Infeasible, new(big.Rat)
	}
	ones := make([]int, len(cost))
	for i := range ones {
		ones[i] = 1
	}
	rays := api.System{A: append(slices.Clone(s.A), list(ones...)), B: append(make([]api.Rat, len(s.B)), list(1)...)}
	for _, ray := range vertices(rays) {
		if weigh(cost, ray).Sign() < 0 {
			return linear.Unbounded, new(big.Rat)
		}
	}
	best := weigh(cost, points[0])
	for _, x := range points[1:] {
		if total := weigh(cost, x); total.Cmp(best) < 0 {
			best = total
		}
	}
	return linear.Bounded, best
}

func weigh(cost []api.Rat, x []*big.Rat) *big.Rat {
	sum := new(big.Rat)
	for i := range x {
		sum.Add(sum, new(big.Rat).Mul(value(cost[i]), x[i]))
	}
	return sum
}

// small calls check for all systems with the given numbers of equations and unknowns whose numbers are -1, 0 and 1, or for
// every step-th of them.
func small(equations, unknowns, step int, check func(s api.System)) {
	count := 1
	for range equations * (unknowns + 1) {
		count *= 3
	}
	for code := 0; code < count; code += step {
		rest := code
		rows := make([][]int, equations)
		for i := range rows {
			for range unknowns + 1 {
				rows[i] = append(rows[i], rest%3-1)
				rest /= 3
			}
		}
		check(system(rows...))
	}
}

// number returns a small fraction, in any form.
func number(source *rand.Rand) api.Rat {
	switch source.Intn(4) {
	case 0:
		return api.Rat{}
	case 1:
		return fraction(int64(source.Intn(13)-6), int64(source.Intn(7)-3))
	}
	return fraction(int64(source.Intn(7)-3), 1)
}

func numbers(source *rand.Rand, n int) []api.Rat {
	result := make([]api.Rat, n)
	for i := range result {
		result[i] = number(source)
	}
	return result
}

// random returns a system with fractions in any form. Every other one has a point, and some equations follow from others.
func random(source *rand.Rand, equations, unknowns int) api.System {
	s := api.System{B: numbers(source, equations)}
	for range equations {
		s.A = append(s.A, numbers(source, unknowns))
	}
	if source.Intn(2) == 0 {
		x := make([]api.Rat, unknowns)
		for j := range x {
			x[j] = fraction(int64(source.Intn(4)), int64(1+source.Intn(3)))
		}
		for i := range s.B {
			s.B[i] = rat(dot(s.A[i], x))
		}
	}
	if equations > 2 && source.Intn(2) == 0 {
		from, factor := source.Intn(equations-1), number(source)
		last := equations - 1
		s.A[last], s.B[last] = scaled(s.A[from], factor), scaled(s.B[from:from+1], factor)[0]
	}
	return s
}

func rat(v *big.Rat) api.Rat {
	return api.Rat{Num: wholeOf(v.Num()), Den: wholeOf(v.Denom())}
}

func scaled(l []api.Rat, factor api.Rat) []api.Rat {
	var result []api.Rat
	for _, x := range l {
		result = append(result, rat(new(big.Rat).Mul(value(x), value(factor))))
	}
	return result
}

// expectSolved fails unless Solve decides s as the model does, with a proof.
func expectSolved(t *testing.T, s api.System, feasible bool) {
	t.Helper()
	r, code := linear.Solve(s)
	if code != api.OK || r.Feasible != feasible || !isResult(s, r) || !linear.CheckResult(s, r) {
		t.Fatalf("Solve(%v) = %v, %d; feasible: %t", s, r, code, feasible)
	}
}

// expectLeast fails unless Minimize finds the given optimum, with a proof.
func expectLeast(t *testing.T, s api.System, cost []api.Rat, kind linear.Kind, least *big.Rat) linear.Optimum {
	t.Helper()
	o, code := linear.Minimize(s, cost)
	if code != api.OK || o.Kind != kind || value(o.Value).Cmp(least) != 0 {
		t.Fatalf("Minimize(%v, %v) = %v, %d; want kind %d, value %v", s, cost, o, code, kind, least)
	}
	if !isOptimum(s, cost, o) || !linear.CheckOptimum(s, cost, o) {
		t.Fatalf("Minimize(%v, %v) = %v is not an optimum", s, cost, o)
	}
	return o
}
