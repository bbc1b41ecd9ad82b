package flat_test

import (
	"math"
	"math/big"
	"regexp"

	"keyhole/api"
)

// The models follow the sentences of the chapter one by one, with integers of any size.

func number(n int) *big.Int { return big.NewInt(int64(n)) }

// isWide reports whether a number is beyond MaxInt.
func isWide(n *big.Int) bool { return n.CmpAbs(number(1<<20)) > 0 }

// least and greatest return one of the numbers.
func least(list ...*big.Int) *big.Int {
	result := list[0]
	for _, n := range list {
		if n.Cmp(result) < 0 {
			result = n
		}
	}
	return result
}

func greatest(list ...*big.Int) *big.Int {
	result := list[0]
	for _, n := range list {
		if n.Cmp(result) > 0 {
			result = n
		}
	}
	return result
}

// rangeModel returns the range of a term without errors of the code ErrArgument, and whether that of a node goes too far.
func rangeModel(vars []api.Var, t api.Term) (low, high *big.Int, wide bool) {
	var lows, highs []*big.Int
	for _, kid := range t.Kids {
		l, h, w := rangeModel(vars, kid)
		lows, highs, wide = append(lows, l), append(highs, h), wide || w
	}
	switch t.Op {
	case api.OpLit:
		low, high = number(t.N), number(t.N)
	case api.OpRef:
		low, high = number(vars[t.N].Low), number(vars[t.N].High)
	case api.OpNeg:
		low, high = new(big.Int).Neg(highs[0]), new(big.Int).Neg(lows[0])
	case api.OpAdd, api.OpSub, api.OpMul:
		var results []*big.Int
		for _, a := range []*big.Int{lows[0], highs[0]} {
			for _, b := range []*big.Int{lows[1], highs[1]} {
				switch t.Op {
				case api.OpAdd:
					results = append(results, new(big.Int).Add(a, b))
				case api.OpSub:
					results = append(results, new(big.Int).Sub(a, b))
				default:
					results = append(results, new(big.Int).Mul(a, b))
				}
			}
		}
		low, high = least(results...), greatest(results...)
	case api.OpDiv:
		high = greatest(new(big.Int).Abs(lows[0]), new(big.Int).Abs(highs[0]))
		low = new(big.Int)
		if lows[0].Sign() < 0 || lows[1].Sign() < 0 {
			low.Neg(high)
		}
	case api.OpMod:
		low, high = new(big.Int), new(big.Int)
		if lows[1].Sign() < 0 {
			low = least(new(big.Int), new(big.Int).Add(lows[1], number(1)))
		}
		if highs[1].Sign() > 0 {
			high = greatest(new(big.Int), new(big.Int).Sub(highs[1], number(1)))
		}
	case api.OpMin:
		low, high = least(lows...), least(highs...)
	case api.OpMax:
		low, high = greatest(lows...), greatest(highs...)
	case api.OpCond, api.OpSelect:
		low, high = least(lows[1:]...), greatest(highs[1:]...)
	default:
		low, high = number(0), number(1)
	}
	return low, high, wide || isWide(low) || isWide(high)
}

// isTermModel reports whether no node of a term is an error of the code ErrArgument.
func isTermModel(t api.Term, mayRefer map[int]bool) bool {
	arity := map[int]bool{}
	switch {
	case t.Op == api.OpLit, t.Op == api.OpRef:
		arity[0] = true
	case t.Op == api.OpSelect:
		for kids := 2; kids <= 33; kids++ {
			arity[kids] = true
		}
	}
	for _, o := range operators {
		if o.op == t.Op {
			arity[o.kids] = true
		}
	}
	good := arity[len(t.Kids)] && (t.N == 0 || t.Op == api.OpLit || t.Op == api.OpRef) && (t.Op != api.OpRef || mayRefer[t.N])
	for _, kid := range t.Kids {
		good = isTermModel(kid, mayRefer) && good
	}
	return good
}

func termModel(vars []api.Var, t api.Term, mayRefer map[int]bool) api.Code {
	if !isTermModel(t, mayRefer) {
		return api.ErrArgument
	}
	if _, _, wide := rangeModel(vars, t); wide {
		return api.ErrRange
	}
	return api.OK
}

// setOf returns the indices of the variables that are accepted.
func setOf(vars []api.Var, accept func(v api.Var) bool) map[int]bool {
	set := map[int]bool{}
	for _, i := range indices(vars, accept) {
		set[i] = true
	}
	return set
}

var nameForm = regexp.MustCompile(`\A[a-z][a-z0-9._]{0,39}\z`)

// varsModel returns the code of the first error of the variables, and of their spaces.
func varsModel(vars []api.Var) api.Code {
	for i, v := range vars {
		if !nameForm.MatchString(v.Name) {
			return api.ErrName
		}
		for _, earlier := range vars[:i] {
			if earlier.Name == v.Name {
				return api.ErrDuplicate
			}
		}
		if v.Kind != api.Local && v.Kind != api.Secret && v.Kind != api.Public && v.Kind != api.Random {
			return api.ErrArgument
		}
		if v.Low > v.High || v.Low < -1<<20 || v.High > 1<<20 {
			return api.ErrRange
		}
		if v.Kind == api.Local && (v.Low > v.Init || v.Init > v.High) || v.Kind != api.Local && v.Init != 0 {
			return api.ErrRange
		}
	}
	for kind, most := range map[api.Kind]int{api.Secret: 4096, api.Public: 4096, api.Random: 256} {
		vectors := number(1)
		for _, v := range vars {
			if v.Kind == kind {
				vectors.Mul(vectors, number(v.High-v.Low+1))
			}
		}
		if vectors.Cmp(number(most)) > 0 {
			return api.ErrLimit
		}
	}
	return api.OK
}

// shape is what a program has of nodes: their number, and how deep its steps and terms are.
type shape struct{ nodes, steps, terms int }

func (s *shape) term(t api.Term, depth int) {
	s.nodes++
	s.terms = max(s.terms, depth)
	for _, kid := range t.Kids {
		s.term(kid, depth+1)
	}
}

func (s *shape) list(steps []api.Step, depth int) {
	for _, step := range steps {
		s.nodes++
		s.steps = max(s.steps, depth)
		s.term(step.Term, 1)
		s.list(step.Then, depth+1)
		s.list(step.Else, depth+1)
	}
}

// checkModel returns the code of the first error of a program.
func checkModel(f api.Flat) api.Code {
	var s shape
	for _, h := range f.Hatches {
		s.term(h.Term, 1)
	}
	s.list(f.Body, 1)
	if len(f.Vars) > 64 || len(f.Hatches) > 8 || s.nodes > 1024 || s.steps > 12 || s.terms > 12 {
		return api.ErrLimit
	}
	if code := varsModel(f.Vars); code != api.OK {
		return code
	}
	for i, h := range f.Hatches {
		if !nameForm.MatchString(h.Name) {
			return api.ErrName
		}
		for _, earlier := range f.Hatches[:i] {
			if earlier.Name == h.Name {
				return api.ErrDuplicate
			}
		}
		if h.Low > h.High || h.Low < -1<<20 || h.High > 1<<20 {
			return api.ErrRange
		}
		if code := termModel(f.Vars, h.Term, setOf(f.Vars, isInput)); code != api.OK {
			return code
		}
	}
	if code := stepsModel(f, f.Body, true); code != api.OK {
		return code
	}
	for i, bound := range boundsModel(f.Body) {
		if bound.Cmp(number([3]int{4096, 8, 1 << 26}[i])) > 0 {
			return api.ErrLimit
		}
	}
	return api.OK
}

func stepsModel(f api.Flat, list []api.Step, isBody bool) api.Code {
	for i, s := range list {
		if code := stepModel(f, s, isBody && i == len(list)-1); code != api.OK {
			return code
		}
		if code := stepsModel(f, s.Then, false); code != api.OK {
			return code
		}
		if code := stepsModel(f, s.Else, false); code != api.OK {
			return code
		}
	}
	return api.OK
}

// usedFields has the fields that the table of the chapter names, but for Cost.
var usedFields = map[api.Action]string{
	api.Assign: "Var Term", api.Output: "Term", api.Wait: "-", api.If: "Term Then Else", api.Loop: "N Term Then", api.Release: "Var N", api.Settle: "Bounds",
}

func stepModel(f api.Flat, s api.Step, isLast bool) api.Code {
	uses := usedFields[s.Do]
	if uses == "" {
		return api.ErrArgument
	}
	for field, isZero := range map[string]bool{
		"Var": s.Var == 0, "N": s.N == 0, "Term": s.Term.Op == api.OpLit && s.Term.N == 0 && len(s.Term.Kids) == 0, "Then": len(s.Then) == 0, "Else": len(s.Else) == 0, "Bounds": len(s.Bounds) == 0,
	} {
		if !isZero && !regexp.MustCompile(`\b`+field+`\b`).MatchString(uses) {
			return api.ErrArgument
		}
	}
	if (s.Do == api.Assign || s.Do == api.Release) && !setOf(f.Vars, isLocal)[s.Var] {
		return api.ErrArgument
	}
	if s.Do == api.Release && (s.N < 0 || s.N >= len(f.Hatches)) {
		return api.ErrArgument
	}
	if s.Do == api.Settle {
		if !isLast || len(s.Bounds) == 0 || len(s.Bounds) > 32 || s.Bounds[0] < 0 {
			return api.ErrArgument
		}
		for i, b := range s.Bounds[1:] {
			if b <= s.Bounds[i] {
				return api.ErrArgument
			}
		}
	}
	if s.Cost < 0 || s.Cost > 1<<26 || s.Cost > 10000 && s.Do != api.Wait || s.Do == api.Loop && (s.N < 0 || s.N > 4096) {
		return api.ErrRange
	}
	for _, b := range s.Bounds {
		if b > 1<<26 {
			return api.ErrRange
		}
	}
	return termModel(f.Vars, s.Term, setOf(f.Vars, isAny))
}

// boundsModel returns the upper bounds of executed steps, outputs and time.
func boundsModel(list []api.Step) [3]*big.Int {
	total := [3]*big.Int{new(big.Int), new(big.Int), new(big.Int)}
	for _, s := range list {
		own := [3]int{1, 0, s.Cost}
		if s.Do == api.Output {
			own[1] = 1
		}
		then, other := boundsModel(s.Then), boundsModel(s.Else)
		for i := range total {
			switch s.Do {
			case api.If:
				total[i].Add(total[i], number(own[i]))
				total[i].Add(total[i], greatest(then[i], other[i]))
			case api.Loop:
				if i == 0 {
					total[i].Add(total[i], number(1))
				}
				round := new(big.Int).Add(then[i], number(own[i]))
				total[i].Add(total[i], round.Mul(round, number(s.N)))
			default:
				total[i].Add(total[i], number(own[i]))
			}
		}
	}
	return total
}

// spanModel returns the least and the greatest time of steps.
func spanModel(list []api.Step) (low, high *big.Int) {
	most := number(1<<26 + 1)
	low, high = new(big.Int), new(big.Int)
	for _, s := range list {
		cost, n := number(min(max(s.Cost, 0), 1<<26+1)), number(min(max(s.N, 0), 4096))
		l, h := cost, cost
		thenLow, thenHigh := spanModel(s.Then)
		otherLow, otherHigh := spanModel(s.Else)
		evaluated := new(big.Int)
		if n.Sign() > 0 {
			evaluated = cost
		}
		switch isLit := s.Term.Op == api.OpLit; {
		case s.Do == api.If:
			l, h = new(big.Int).Add(cost, least(thenLow, otherLow)), new(big.Int).Add(cost, greatest(thenHigh, otherHigh))
		case s.Do == api.Loop && isLit && s.Term.N != 0:
			l, h = new(big.Int).Mul(n, new(big.Int).Add(cost, thenLow)), new(big.Int).Mul(n, new(big.Int).Add(cost, thenHigh))
		case s.Do == api.Loop && isLit:
			l, h = evaluated, evaluated
		case s.Do == api.Loop:
			l, h = evaluated, new(big.Int).Mul(n, new(big.Int).Add(cost, thenHigh))
		}
		low, high = least(most, new(big.Int).Add(low, l)), least(most, new(big.Int).Add(high, h))
	}
	return low, high
}

func truthOf(holds bool) int {
	if holds {
		return 1
	}
	return 0
}

// valueModel returns the value of a term. All kids are evaluated.
func valueModel(values []int, t api.Term) int {
	var k []int
	for _, kid := range t.Kids {
		k = append(k, valueModel(values, kid))
	}
	floor := func() int { return int(math.Floor(float64(k[0]) / float64(k[1]))) }
	switch t.Op {
	case api.OpLit:
		return t.N
	case api.OpRef:
		return values[t.N]
	case api.OpNeg:
		return 0 - k[0]
	case api.OpNot:
		return truthOf(k[0] == 0)
	case api.OpAdd:
		return k[0] + k[1]
	case api.OpSub:
		return k[0] - k[1]
	case api.OpMul:
		return k[0] * k[1]
	case api.OpDiv:
		if k[1] == 0 {
			return 0
		}
		return floor()
	case api.OpMod:
		if k[1] == 0 {
			return 0
		}
		return k[0] - k[1]*floor()
	case api.OpEq:
		return truthOf(k[0] == k[1])
	case api.OpNe:
		return truthOf(k[0] != k[1])
	case api.OpLt:
		return truthOf(k[0] < k[1])
	case api.OpLe:
		return truthOf(k[0] <= k[1])
	case api.OpGt:
		return truthOf(k[0] > k[1])
	case api.OpGe:
		return truthOf(k[0] >= k[1])
	case api.OpAnd:
		return truthOf(k[0]*k[1] != 0)
	case api.OpOr:
		return truthOf(k[0]*k[0]+k[1]*k[1] != 0)
	case api.OpMin:
		return min(k[0], k[1])
	case api.OpMax:
		return max(k[0], k[1])
	case api.OpCond:
		return k[2-truthOf(k[0] != 0)]
	case api.OpSelect:
		others := k[1:]
		return others[min(max(k[0], 0), len(others)-1)]
	}
	panic("no operator")
}

// result is what the model finds of a run.
type result struct {
	seen     api.Observation
	final    []int
	executed int // the steps, as they are counted for the upper bound
	unheld   int // the time before a settle
	settled  bool
	code     api.Code // of the inputs alone
}

// todo is a step that is to be executed, or a loop with rounds that are left.
type todo struct {
	step  api.Step
	again bool
	left  int
}

// runModel runs a valid program with a list of what is to be executed.
func runModel(f api.Flat, in api.Inputs) result {
	var r result
	lists := map[api.Kind][]int{api.Secret: in.Secret, api.Public: in.Public, api.Random: in.Random}
	for kind, list := range lists {
		if len(indices(f.Vars, func(v api.Var) bool { return v.Kind == kind })) != len(list) {
			return result{code: api.ErrArgument}
		}
	}
	for _, v := range f.Vars {
		value := v.Init
		if v.Kind != api.Local {
			value = lists[v.Kind][0]
			lists[v.Kind] = lists[v.Kind][1:]
		}
		if value < v.Low || value > v.High {
			return result{code: api.ErrRange}
		}
		r.final = append(r.final, value)
	}
	var hatches []int
	for _, h := range f.Hatches {
		hatches = append(hatches, min(max(valueModel(r.final, h.Term), h.Low), h.High))
	}
	agenda := []todo{}
	push := func(steps []api.Step) {
		for i := len(steps) - 1; i >= 0; i-- {
			agenda = append(agenda, todo{step: steps[i]})
		}
	}
	push(f.Body)
	for len(agenda) > 0 {
		next := agenda[len(agenda)-1]
		agenda = agenda[:len(agenda)-1]
		s := next.step
		if s.Do == api.Loop && !next.again {
			r.executed++
			agenda = append(agenda, todo{s, true, s.N})
			continue
		}
		if next.again && next.left == 0 {
			continue
		}
		r.executed++
		r.seen.Time += s.Cost
		value := valueModel(r.final, s.Term)
		switch s.Do {
		case api.Assign:
			r.final[s.Var] = min(max(value, f.Vars[s.Var].Low), f.Vars[s.Var].High)
		case api.Release:
			r.final[s.Var] = min(max(hatches[s.N], f.Vars[s.Var].Low), f.Vars[s.Var].High)
		case api.Output:
			r.seen.Outputs = append(r.seen.Outputs, value)
		case api.If:
			push([][]api.Step{s.Else, s.Then}[truthOf(value != 0)])
		case api.Loop:
			if value != 0 {
				agenda = append(agenda, todo{s, true, next.left - 1})
				push(s.Then)
			}
		}
	}
	r.unheld = r.seen.Time
	if n := len(f.Body); n > 0 && f.Body[n-1].Do == api.Settle {
		r.settled = true
		for _, b := range f.Body[n-1].Bounds {
			if b >= r.unheld {
				r.seen.Time = b
				break
			}
		}
	}
	return r
}
