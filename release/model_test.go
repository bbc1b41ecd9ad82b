package release_test

import (
	"keyhole/api"
	"keyhole/flat"
	"keyhole/policy"
	"keyhole/sample"
)

// partitionBy returns the canonical partition of so many elements in which those are together of which areTogether says so.
func partitionBy(size int, areTogether func(a, b int) bool) []int {
	var p, first []int
	for b := range size {
		class := len(first)
		for c, a := range first {
			if areTogether(a, b) {
				class = c
				break
			}
		}
		if class == len(first) {
			first = append(first, b)
		}
		p = append(p, class)
	}
	return p
}

// permittedModel returns the permitted partition for the programs of sample.
func permittedModel(f api.Flat, p api.Policy, public, random []int) []int {
	visible, _ := policy.Visible(f, p)
	released, _ := policy.Released(f, p)
	all := sample.Secrets()
	return partitionBy(len(all), func(a, b int) bool {
		for i, v := range []int{1, 6} {
			if visible[v] && all[a][i] != all[b][i] {
				return false
			}
		}
		x := sample.HatchValues(api.Inputs{Secret: all[a], Public: public, Random: random})
		y := sample.HatchValues(api.Inputs{Secret: all[b], Public: public, Random: random})
		for h := range x {
			if released[h] && x[h] != y[h] {
				return false
			}
		}
		return true
	})
}

// actualModel returns the actual partition for the programs of sample.
func actualModel(f api.Flat, v api.View, random []int) []int {
	all := sample.Secrets()
	run := func(i int) api.Observation {
		o, code := flat.Run(f, api.Inputs{Secret: all[i], Public: v.Public, Random: random})
		if code != api.OK {
			panic(code)
		}
		return flat.Seen(o, v.Timed)
	}
	return partitionBy(len(all), func(a, b int) bool { return flat.Compare(run(a), run(b)) == 0 })
}

// breachModel returns the first breach among all triples.
func breachModel(f api.Flat, p api.Policy, v api.View) (random, a, b int, code api.Code) {
	for random := range 2 {
		permitted, actual := permittedModel(f, p, v.Public, []int{random}), actualModel(f, v, []int{random})
		for a := range actual {
			for b := a + 1; b < len(actual); b++ {
				if permitted[a] == permitted[b] && actual[a] != actual[b] {
					return random, a, b, api.OK
				}
			}
		}
	}
	return 0, 0, 0, api.ErrMissing
}

// excessModel returns the greatest number of different observations in a permitted class.
func excessModel(f api.Flat, p api.Policy, v api.View) int {
	excess := 0
	for random := range 2 {
		permitted, actual := permittedModel(f, p, v.Public, []int{random}), actualModel(f, v, []int{random})
		for class := range permitted {
			seen := map[int]bool{}
			for i, c := range permitted {
				if c == class {
					seen[actual[i]] = true
				}
			}
			excess = max(excess, len(seen))
		}
	}
	return excess
}
