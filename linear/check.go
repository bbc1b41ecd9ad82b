package linear

import (
	"slices"

	"keyhole/api"
	"keyhole/rational"
)

// CheckPoint reports whether x is a point of s.
func CheckPoint(s api.System, x []api.Rat) bool {
	return Valid(s) && isPoint(s, s.B, x)
}

// isPoint reports whether x is a point of the valid system s with b on the right-hand sides.
func isPoint(s api.System, b, x []api.Rat) bool {
	if len(x) != len(s.A[0]) || !allAtLeastZero(x) {
		return false
	}
	for i, row := range s.A {
		if rational.Compare(product(row, x), b[i]) != 0 {
			return false
		}
	}
	return true
}

// allAtLeastZero reports whether no number of the list is below zero.
func allAtLeastZero(list []api.Rat) bool {
	return !slices.ContainsFunc(list, func(x api.Rat) bool { return rational.Sign(x) < 0 })
}

// product returns the sum of the products of a and b, which have equally many numbers.
func product(a, b []api.Rat) api.Rat {
	terms := make([]api.Rat, len(a))
	for i := range a {
		terms[i] = rational.Mul(a[i], b[i])
	}
	return rational.Sum(terms)
}

// column returns the coefficients of the unknown j in the valid system s.
func column(s api.System, j int) []api.Rat {
	result := make([]api.Rat, len(s.A))
	for i, row := range s.A {
		result[i] = row[j]
	}
	return result
}

// CheckFarkas reports whether y proves that s has no point: y A has no component below zero, and y B is below zero.
func CheckFarkas(s api.System, y []api.Rat) bool {
	if !Valid(s) || len(y) != len(s.B) {
		return false
	}
	for j := range s.A[0] {
		if rational.Sign(product(y, column(s, j))) < 0 {
			return false
		}
	}
	return rational.Sign(product(y, s.B)) < 0
}

// CheckResult reports whether r is a point, or a Farkas vector, of s.
func CheckResult(s api.System, r api.LinearResult) bool {
	if r.Feasible {
		return len(r.Y) == 0 && CheckPoint(s, r.X)
	}
	return len(r.X) == 0 && CheckFarkas(s, r.Y)
}

// CheckOptimum reports whether o proves that it is the result of minimizing the cost over the points of s.
func CheckOptimum(s api.System, cost []api.Rat, o Optimum) bool {
	if !Valid(s) || len(cost) != len(s.A[0]) {
		return false
	}
	switch o.Kind {
	case Infeasible:
		return len(o.X) == 0 && len(o.Ray) == 0 && rational.Sign(o.Value) == 0 && CheckFarkas(s, o.Y)
	case Unbounded:
		return len(o.Y) == 0 && rational.Sign(o.Value) == 0 && CheckPoint(s, o.X) && isRay(s, cost, o.Ray)
	case Bounded:
		return len(o.Ray) == 0 && CheckPoint(s, o.X) && isDual(s, cost, o.Y) &&
			rational.Compare(product(cost, o.X), o.Value) == 0 && rational.Compare(product(o.Y, s.B), o.Value) == 0
	}
	return false
}

// isRay reports whether ray may be added to every point of s, any number of times, and the cost falls each time.
func isRay(s api.System, cost, ray []api.Rat) bool {
	return isPoint(s, make([]api.Rat, len(s.B)), ray) && rational.Sign(product(cost, ray)) < 0
}

// isDual reports whether y is a dual solution: whether the equations, each taken as often as y says, cost no unknown more
// than it does.
func isDual(s api.System, cost, y []api.Rat) bool {
	if len(y) != len(s.B) {
		return false
	}
	for j := range cost {
		if rational.Compare(product(y, column(s, j)), cost[j]) > 0 {
			return false
		}
	}
	return true
}
