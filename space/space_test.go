package space_test

import (
	"math/rand"
	"testing"

	"keyhole/sample"
	"keyhole/space"
)

// assignment returns the values of variables whose number is an index: that of variables[k] is its bit k.
func assignment(variables []int, index int) []bool {
	in := make([]bool, 20)
	for k, v := range variables {
		in[v-1] = index>>k&1 == 1
	}
	return in
}

func TestFalsify(t *testing.T) {
	r := rand.New(rand.NewSource(1))
	for count := range 11 {
		variables := sample.Range(3, 3+count, 1)
		s := space.New(variables)
		if s.Words() != 1<<max(0, count-6) {
			t.Fatalf("%d words for %d variables", s.Words(), count)
		}
		for range 50 {
			clause := sample.Clause(r.Intn, max(count, 1), min(count, r.Intn(6)))
			for i, lit := range clause {
				clause[i] += 2
				if lit < 0 {
					clause[i] = lit - 2
				}
			}
			wrong := make([]uint64, s.Words())
			visits := 0
			s.Falsify(clause, func(word int, mask uint64) {
				visits++
				wrong[word] |= mask
			})
			if visits != s.Visits(clause) {
				t.Fatalf("%d and %d visits for %v", visits, s.Visits(clause), clause)
			}
			for index := range 64 * s.Words() {
				in := assignment(variables, index)
				if isWrong := wrong[index/64]>>(index%64)&1 == 1; isWrong == sample.IsModel([][]int{clause}, in) {
					t.Fatalf("%v is false: %v for %v", clause, isWrong, in)
				}
			}
		}
	}
}

func TestProject(t *testing.T) {
	r := rand.New(rand.NewSource(2))
	for count := range 11 {
		for keep := range count + 1 {
			words := make([]uint64, 1<<max(0, count-6))
			for i := range words {
				words[i] = r.Uint64() | r.Uint64() | r.Uint64()
			}
			for k := count; k < 6; k++ { // each assignment is there several times
				words[0] &= 1<<(1<<k) - 1
			}
			for k := count; k < 6; k++ {
				words[0] |= words[0] << (1 << k)
			}
			var want []bool
			for first := range 1 << keep {
				all := true
				for index := first; index < 64*len(words); index += 1 << keep {
					all = all && words[index/64]>>(index%64)&1 == 1
				}
				want = append(want, all)
			}
			got := space.Project(words, keep)
			if len(got) != 1<<max(0, keep-6) {
				t.Fatalf("%d words for %d of %d variables", len(got), keep, count)
			}
			for index := range 64 * len(got) {
				isWanted := index < len(want) && want[index]
				if isSet := got[index/64]>>(index%64)&1 == 1; isSet != isWanted {
					t.Fatalf("the assignment %d of %d variables out of %d: %v", index, keep, count, isSet)
				}
			}
		}
	}
}
