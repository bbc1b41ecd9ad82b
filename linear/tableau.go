package linear

import (
	"keyhole/api"
	"keyhole/rational"
)

// tableau is a system that is solved for its basic variables, one for each equation. The variables are the unknowns and,
// behind them, one artificial variable for each equation: what the equation lacks. All other variables are 0.
//
// All numbers are integers (fractions with the denominator 1), and stand for themselves divided by whole. They are
// determinants of parts of the system, whole is the one of the basis, and so each pivot divides by it without a remainder
// (Edmonds, Bareiss): no common divisors need to be searched for, and the numbers grow only as far as they must.
type tableau struct {
	unknowns int
	factors  []api.Rat   // what each equation of the system has been multiplied by
	rows     [][]api.Rat // for each variable its coefficient, then the value of the basic variable
	cost     []api.Rat   // for each variable what a unit of it costs, then the cost with the opposite sign
	basis    []int
	whole    api.Rat
}

// tableauOf returns the tableau of the valid system s in which the artificial variables are basic, each costs 1, and the
// unknowns cost nothing.
func tableauOf(s api.System) *tableau {
	t := &tableau{unknowns: len(s.A[0]), whole: number(1)}
	last := t.unknowns + len(s.A)
	for i, coefficients := range s.A {
		equation := append(append([]api.Rat{}, coefficients...), s.B[i])
		factor := denominator(equation)
		if rational.Sign(s.B[i]) < 0 {
			factor = rational.Neg(factor)
		}
		equation = multiplied(equation, factor)
		row := make([]api.Rat, last+1)
		copy(row, equation[:t.unknowns])
		row[t.unknowns+i] = number(1)
		row[last] = equation[t.unknowns]
		t.factors = append(t.factors, factor)
		t.rows = append(t.rows, row)
		t.basis = append(t.basis, t.unknowns+i)
	}
	prices := make([]api.Rat, last)
	for i := range s.A {
		prices[t.unknowns+i] = number(1)
	}
	t.charge(prices)
	return t
}

// number returns n as a fraction.
func number(n int) api.Rat {
	x, _ := rational.Of(n, 1)
	return x
}

// denominator returns the least common denominator of the list.
func denominator(list []api.Rat) api.Rat {
	common := number(1)
	for _, x := range list {
		missing := rational.Mul(common, x).Den
		common = rational.Mul(common, api.Rat{Num: missing, Den: number(1).Num})
	}
	return common
}

// multiplied returns the numbers of the list times the factor.
func multiplied(list []api.Rat, factor api.Rat) []api.Rat {
	result := make([]api.Rat, len(list))
	for i, x := range list {
		result[i] = rational.Mul(x, factor)
	}
	return result
}

// charge makes prices the costs of the first variables; the others cost nothing.
func (t *tableau) charge(prices []api.Rat) {
	last := t.unknowns + len(t.rows)
	paid := make([]api.Rat, last+1)
	copy(paid, prices)
	t.cost = multiplied(paid, t.whole)
	for i, row := range t.rows {
		price := paid[t.basis[i]]
		if rational.Sign(price) == 0 {
			continue
		}
		for j := range t.cost {
			t.cost[j] = rational.Sub(t.cost[j], rational.Mul(price, row[j]))
		}
	}
}

// findPoint lowers the artificial variables, as far as possible, and reports whether all of them are 0.
func (t *tableau) findPoint() bool {
	done := func() bool { return rational.Sign(t.cost[len(t.cost)-1]) == 0 }
	t.minimize(done)
	return done()
}

// minimize makes pivots until enough reports true or the cost cannot fall any further, and returns -1 then; or it returns
// an unknown that may grow without an end while the cost falls.
//
// The unknown whose growth is the cheapest goes into the basis. Only after a pivot that left the cost as it was, the
// greatest one of the candidates is taken, until the cost falls again: by this rule (Bland's, from the other end) no basis
// comes back. And there are no two stretches of pivots with the same cost.
func (t *tableau) minimize(enough func() bool) int {
	stuck := false
	choose := func() (row, column int) {
		column = -1
		for j := range t.unknowns {
			if rational.Sign(t.cost[j]) < 0 && (column < 0 || stuck || rational.Compare(t.cost[j], t.cost[column]) < 0) {
				column = j
			}
		}
		if column < 0 {
			return -1, -1
		}
		return t.leaving(column), column
	}
pivots:
	for !enough() {
		row, column := choose()
		switch {
		case column < 0:
			break pivots
		case row < 0:
			return column
		}
		stuck = rational.Sign(t.value(row)) == 0
		t.pivot(row, column)
	}
	return -1
}

// value returns the value of the basic variable of a row, times whole.
func (t *tableau) value(row int) api.Rat {
	return t.rows[row][len(t.cost)-1]
}

// leaving returns the row whose basic variable is the first one to become 0 when the variable of the column grows, or -1 if
// none does. Of several ones it is the greatest variable, as Bland's rule from this end asks; so artificial ones go first.
func (t *tableau) leaving(column int) int {
	best := -1
	var least api.Rat
	for i, row := range t.rows {
		if rational.Sign(row[column]) <= 0 {
			continue
		}
		room := api.Rat{Num: t.value(i).Num, Den: row[column].Num}
		order := -1
		if best >= 0 {
			order = rational.Compare(room, least)
		}
		if order < 0 || order == 0 && t.basis[i] > t.basis[best] {
			best, least = i, room
		}
	}
	return best
}

// pivot makes the variable of the column basic in the row, where its coefficient is not 0. If it is below 0 the value of
// the row must be 0.
func (t *tableau) pivot(row, column int) {
	if rational.Sign(t.rows[row][column]) < 0 {
		t.rows[row] = multiplied(t.rows[row], number(-1))
	}
	chosen := t.rows[row]
	for i, other := range t.rows {
		if i != row {
			t.eliminate(other, chosen, column)
		}
	}
	t.eliminate(t.cost, chosen, column)
	t.basis[row] = column
	t.whole = chosen[column]
}

// eliminate makes the coefficient of the column 0 in the row, by the row that is chosen for the pivot.
func (t *tableau) eliminate(row, chosen []api.Rat, column int) {
	factor, whole := row[column], chosen[column]
	if rational.Sign(factor) == 0 && rational.Compare(whole, t.whole) == 0 {
		return
	}
	for j := range row {
		subtracted := rational.Sign(factor) != 0 && rational.Sign(chosen[j]) != 0
		if !subtracted && rational.Sign(row[j]) == 0 {
			continue
		}
		multiple := rational.Mul(row[j], whole)
		if subtracted {
			multiple = rational.Sub(multiple, rational.Mul(factor, chosen[j]))
		}
		row[j] = api.Rat{Num: rational.Floor(api.Rat{Num: multiple.Num, Den: t.whole.Num}), Den: multiple.Den}
	}
}

// retire takes the artificial variables out of the basis, all of which are 0. One of them stays if no unknown is left in
// its row: its equation follows from the others, and no pivot changes it any more.
func (t *tableau) retire() {
	for i, row := range t.rows {
		for j := range t.unknowns {
			if t.basis[i] >= t.unknowns && rational.Sign(row[j]) != 0 {
				t.pivot(i, j)
			}
		}
	}
}

// share returns the number x of the tableau divided by whole.
func (t *tableau) share(x api.Rat) api.Rat {
	result, _ := rational.Divide(x, t.whole)
	return result
}

// zeros returns a list of n zeros.
func zeros(n int) []api.Rat {
	list := make([]api.Rat, n)
	for i := range list {
		list[i] = number(0)
	}
	return list
}

// point returns the values of the unknowns.
func (t *tableau) point() []api.Rat {
	x := zeros(t.unknowns)
	for i, variable := range t.basis {
		if variable < t.unknowns {
			x[variable] = t.share(t.value(i))
		}
	}
	return x
}

// ray returns how the unknowns change when the one of the column grows by 1. No coefficient of the column is above 0.
func (t *tableau) ray(column int) []api.Rat {
	ray := zeros(t.unknowns)
	ray[column] = number(1)
	for i, variable := range t.basis {
		if variable < t.unknowns {
			ray[variable] = rational.Neg(t.share(t.rows[i][column]))
		}
	}
	return ray
}

// dual returns how often each equation is taken so that no unknown costs less than nothing; the costs are those of charge,
// which have been multiplied by scale. Only the artificial variable of an equation shows its multiple, because its price
// is 0 and it occurs nowhere else.
func (t *tableau) dual(scale api.Rat) []api.Rat {
	y := make([]api.Rat, len(t.rows))
	for i, factor := range t.factors {
		multiple := rational.Mul(factor, t.share(t.cost[t.unknowns+i]))
		y[i], _ = rational.Divide(rational.Neg(multiple), scale)
	}
	return y
}

// farkas returns a Farkas vector, if the artificial variables are as low as possible and not all of them are 0. Here their
// price is 1.
func (t *tableau) farkas() []api.Rat {
	y := make([]api.Rat, len(t.rows))
	for i, factor := range t.factors {
		y[i] = rational.Mul(factor, rational.Sub(t.share(t.cost[t.unknowns+i]), number(1)))
	}
	return y
}
