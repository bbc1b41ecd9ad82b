package domain

import "keyhole/api"

// digit is a variable as a digit of a rank: its values are low, low+1 and so on.
type digit struct {
	low, count int
}

// domain has the variables of a kind in order, the last one of which changes fastest, and the number of their vectors.
type domain struct {
	digits []digit
	space  int
}

// domainOf returns the domain of a kind, or the code of the errors that all functions have in common.
func domainOf(vars []api.Var, kind api.Kind) (domain, api.Code) {
	if kind < api.Local || kind > api.Random {
		return domain{}, api.ErrArgument
	}
	d := domain{space: 1}
	for _, v := range vars {
		if v.Kind != kind {
			continue
		}
		if v.Low > v.High || v.Low < -api.MaxInt || v.High > api.MaxInt {
			return domain{}, api.ErrRange
		}
		count := v.High - v.Low + 1
		d.digits = append(d.digits, digit{v.Low, count})
		// No variable makes a space smaller again, so that more than the limit need not be told apart.
		d.space = min(d.space*count, api.MaxSpace+1)
	}
	if d.space > api.MaxSpace {
		return domain{}, api.ErrLimit
	}
	return d, api.OK
}

func (d domain) rank(values []int) (int, api.Code) {
	if len(values) != len(d.digits) {
		return 0, api.ErrMismatch
	}
	rank := 0
	for i, v := range d.digits {
		if values[i] < v.low || values[i] >= v.low+v.count {
			return 0, api.ErrRange
		}
		rank = rank*v.count + values[i] - v.low
	}
	return rank, api.OK
}

func (d domain) unrank(rank int) ([]int, api.Code) {
	if rank < 0 || rank >= d.space {
		return nil, api.ErrRange
	}
	values := make([]int, len(d.digits))
	for i := len(values) - 1; i >= 0; i-- {
		v := d.digits[i]
		values[i] = v.low + rank%v.count
		rank /= v.count
	}
	return values, api.OK
}

// within returns the ranks of the vectors between low and high.
func (d domain) within(low, high []int) []int {
	ranks := []int{0}
	for i, v := range d.digits {
		from, to := max(low[i], v.low), min(high[i], v.low+v.count-1)
		switch {
		case from > to:
			return nil
		case v.count > 1:
			// At most 12 variables of a domain have more than one value, however many variables there are.
			ranks = extended(ranks, v, from, to)
		}
	}
	return ranks
}

// extended returns what becomes of the ranks if the digit follows, with any value between from and to.
func extended(ranks []int, v digit, from, to int) []int {
	var longer []int
	for _, rank := range ranks {
		for value := from; value <= to; value++ {
			longer = append(longer, rank*v.count+value-v.low)
		}
	}
	return longer
}
