package sample

import "keyhole/api"

// Vars returns inputs of each kind between locals.
func Vars() []api.Var {
	return []api.Var{
		{Name: "a", Low: -1, High: 3, Init: 2}, {Name: "s", Kind: api.Secret, High: 2}, {Name: "b", High: 3}, {Name: "p", Kind: api.Public, Low: 1, High: 2},
		{Name: "c", Low: -4, High: 2, Init: -1}, {Name: "r", Kind: api.Random, High: 1}, {Name: "t", Kind: api.Secret, Low: -2, High: 1},
	}
}

// Locals returns the locals of Vars.
func Locals() []int { return []int{0, 2, 4} }

// Inputs returns the inputs of Vars.
func Inputs() []int { return []int{1, 3, 5, 6} }

// Hatches returns hatches over the inputs of Vars.
func Hatches() []api.Hatch {
	return []api.Hatch{
		{Name: "h", Low: -1, High: 1, Term: Op(api.OpSub, Ref(1), Ref(3))}, {Name: "k", High: 3, Term: Op(api.OpMul, Ref(6), Lit(-3))}, {Name: "one", High: 1, Term: Lit(1)},
		{Name: "m", Low: -1, High: 2, Term: Op(api.OpAdd, Op(api.OpMul, Ref(1), Ref(5)), Ref(6))}, {Name: "two", Low: 2, High: 2, Term: Ref(6)},
	}
}

// HatchValues returns the values of Hatches.
func HatchValues(in api.Inputs) []int {
	s, t, p, r := in.Secret[0], in.Secret[1], in.Public[0], in.Random[0]
	return []int{min(max(s-p, -1), 1), min(max(-3*t, 0), 3), 1, min(max(s*r+t, -1), 2), 2}
}

// Secrets returns the vectors of the secret inputs of Vars, by their ranks.
func Secrets() [][]int {
	var all [][]int
	for s := range 3 {
		for t := -2; t <= 1; t++ {
			all = append(all, []int{s, t})
		}
	}
	return all
}

// AllInputs returns all values of the inputs of Vars.
func AllInputs() []api.Inputs {
	var all []api.Inputs
	for _, secret := range Secrets() {
		for i := range 4 {
			all = append(all, api.Inputs{Secret: []int{secret[0], secret[1]}, Public: []int{i%2 + 1}, Random: []int{i / 2}})
		}
	}
	return all
}

// Lattices returns policies without labels, with different lattices. In some of them the least level is not the first one.
func Lattices() []api.Policy {
	return []api.Policy{
		{Levels: []string{"low", "high"}, Order: [][2]int{{0, 1}}},
		{Levels: []string{"left", "bottom", "top", "right"}, Order: [][2]int{{1, 0}, {1, 3}, {0, 2}, {3, 2}}},
		{Levels: []string{"three", "two", "one"}, Order: [][2]int{{2, 1}, {1, 0}}},
		{Levels: []string{"only"}},
		{Levels: []string{"a", "b", "c", "top", "bottom"}, Order: [][2]int{{4, 0}, {4, 1}, {4, 2}, {0, 3}, {1, 3}, {2, 3}}},
		{Levels: []string{"bottom", "side", "lower", "upper", "top"}, Order: [][2]int{{0, 1}, {1, 4}, {0, 2}, {2, 3}, {3, 4}}},
	}
}
