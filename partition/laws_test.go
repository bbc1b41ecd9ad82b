package partition_test

import (
	"math"
	"math/rand"
	"slices"
	"testing"

	"keyhole/api"
	"keyhole/bitset"
	"keyhole/partition"
)

// operations returns Meet, Join and Refines, which fail with the test.
func operations(t *testing.T) (meet, join func(p, q []int) []int, refines func(p, q []int) bool) {
	t.Helper()
	do := func(operation func(p, q []int) ([]int, api.Code)) func(p, q []int) []int {
		return func(p, q []int) []int {
			r, code := operation(p, q)
			if code != api.OK {
				t.Fatalf("an operation on %v and %v returns code %d", p, q, code)
			}
			return r
		}
	}
	refines = func(p, q []int) bool {
		r, code := partition.Refines(p, q)
		if code != api.OK {
			t.Fatalf("Refines(%v, %v) returns code %d", p, q, code)
		}
		return r
	}
	return do(partition.Meet), do(partition.Join), refines
}

// checkLaws fails if one of the laws, which are numbered from 0 on, does not hold.
func checkLaws(t *testing.T, laws []bool, about ...[]int) {
	t.Helper()
	if k := slices.Index(laws, false); k >= 0 {
		t.Fatalf("law %d fails for %v", k, about)
	}
}

func TestP4_4Lattice(t *testing.T) {
	meet, join, refines := operations(t)
	for n := range 6 {
		all := ofSize(n)
		for _, p := range all {
			checkLaws(t, []bool{slices.Equal(meet(p, p), p), slices.Equal(join(p, p), p), refines(p, p)}, p)
			for _, q := range all {
				m, j := meet(p, q), join(p, q)
				checkLaws(t, []bool{
					slices.Equal(m, meet(q, p)),
					slices.Equal(j, join(q, p)),
					slices.Equal(join(p, m), p),
					slices.Equal(meet(p, j), p),
					refines(p, q) == slices.Equal(m, p),
					refines(p, q) == slices.Equal(j, q),
					!refines(p, q) || !refines(q, p) || slices.Equal(p, q),
				}, p, q)
				for _, r := range all {
					checkLaws(t, []bool{
						slices.Equal(meet(m, r), meet(p, meet(q, r))),
						slices.Equal(join(j, r), join(p, join(q, r))),
						!refines(p, q) || !refines(q, r) || refines(p, r),
					}, p, q, r)
				}
			}
		}
	}
}

func TestP4_5Counts(t *testing.T) {
	meet, join, refines := operations(t)
	check := func(p, q []int) {
		t.Helper()
		count, m := partition.Count(p)*partition.Count(q), partition.Count(meet(p, q))
		checkLaws(t, []bool{
			m+partition.Count(join(p, q)) >= partition.Count(p)+partition.Count(q),
			m <= count,
			!refines(p, q) || partition.Count(p) >= partition.Count(q) && partition.Pairs(p) >= partition.Pairs(q) && partition.Largest(p) <= partition.Largest(q),
		}, p, q)
	}
	for n := range 7 {
		all := ofSize(n)
		for _, p := range all {
			for _, q := range all {
				check(p, q)
			}
		}
	}
	source := rand.New(rand.NewSource(4))
	for range 200 {
		p, q := make([]int, 50), make([]int, 50)
		for i := range p {
			p[i], q[i] = source.Intn(12), source.Intn(30)
		}
		p, q = partition.Of(p), partition.Of(q)
		check(p, q)
		check(meet(p, q), p)
		check(q, join(p, q))
	}
}

// setOf returns the set of a size with the members for which in holds.
func setOf(size int, in func(i int) bool) api.Set {
	s := api.Set{Size: size, Words: make([]uint64, (size+63)/64)}
	for i := range size {
		if in(i) {
			s.Words[i/64] |= 1 << (i % 64)
		}
	}
	return s
}

// checkParts compares Branches and Part with their definitions, and the parts with each other.
func checkParts(t *testing.T, p []int, s api.Set) {
	t.Helper()
	branches := 0
	union := setOf(len(p), func(int) bool { return false })
	for c := range partition.Count(p) {
		want := setOf(len(p), func(i int) bool { return p[i] == c && bitset.Has(s, i) })
		part, code := partition.Part(p, s, c)
		if code != api.OK || !bitset.Equal(part, want) {
			t.Fatalf("Part(%v, %s, %d) = %s, %d", p, bitset.Text(s), c, bitset.Text(part), code)
		}
		common, _ := bitset.Intersect(union, part)
		if bitset.Count(common) != 0 {
			t.Fatalf("the parts of %s by %v overlap", bitset.Text(s), p)
		}
		union, _ = bitset.Union(union, part)
		if bitset.Count(part) > 0 {
			branches++
		}
	}
	if !bitset.Equal(union, s) {
		t.Fatalf("the parts of %s by %v have the union %s", bitset.Text(s), p, bitset.Text(union))
	}
	if got, code := partition.Branches(p, s); code != api.OK || got != branches {
		t.Fatalf("Branches(%v, %s) = %d, %d", p, bitset.Text(s), got, code)
	}
	for _, c := range []int{partition.Count(p), -1, math.MaxInt, math.MinInt} {
		refusePart(t, api.ErrRange, p, s, c)
	}
}

// refusePart fails unless Part returns the code want and the zero struct.
func refusePart(t *testing.T, want api.Code, p []int, s api.Set, c int) {
	t.Helper()
	if part, code := partition.Part(p, s, c); code != want || part.Size != 0 || len(part.Words) != 0 {
		t.Errorf("Part(%v, %v, %d) = %v, %d, want code %d", p, s, c, part, code, want)
	}
}

func TestP4_6Parts(t *testing.T) {
	for _, p := range valid(5) {
		for bits := range 1 << len(p) {
			checkParts(t, p, setOf(len(p), func(i int) bool { return bits>>i&1 == 1 }))
		}
	}
	source := rand.New(rand.NewSource(5))
	for _, size := range []int{63, 64, 65, 700, api.MaxSpace} {
		for _, classes := range []int{1, 2, 20} {
			labels := make([]int, size)
			for i := range labels {
				labels[i] = source.Intn(classes)
			}
			p := partition.Of(labels)
			for _, chance := range []int{1, 2, 40} {
				checkParts(t, p, setOf(size, func(int) bool { return source.Intn(chance) == 0 }))
			}
			checkParts(t, p, setOf(size, func(int) bool { return false }))
		}
	}
}

func TestP4_6Errors(t *testing.T) {
	good, bad := setOf(4, func(i int) bool { return i < 3 }), []api.Set{{Size: -1}, {Size: 4}, {Size: 4, Words: []uint64{16}}, {Size: 4097, Words: make([]uint64, 65)}}
	check := func(want api.Code, p []int, s api.Set) {
		t.Helper()
		if branches, code := partition.Branches(p, s); code != want || branches != 0 {
			t.Errorf("Branches(%v, %v) = %d, %d, want code %d", p, s, branches, code, want)
		}
		for _, c := range []int{0, 1, -1, 99} {
			refusePart(t, want, p, s, c)
		}
	}
	for _, p := range broken() {
		check(api.ErrArgument, p, good)
		check(api.ErrArgument, p, api.Set{})
		check(api.ErrArgument, p, bad[2])
	}
	for _, s := range bad {
		for _, p := range [][]int{nil, {0}, {0, 1, 0, 2}} {
			check(api.ErrArgument, p, s)
		}
	}
	for _, p := range [][]int{nil, {0}, {0, 1, 2}, {0, 1, 2, 3, 4}, make([]int, api.MaxSpace), make([]int, api.MaxSpace+4)} {
		check(api.ErrMismatch, p, good)
	}
	check(api.ErrMismatch, []int{0}, api.Set{})
	refusePart(t, api.ErrRange, nil, api.Set{}, 0)
}

func TestExamples(t *testing.T) {
	meet, join, refines := operations(t)
	p, q := partition.Of([]int{7, 3, 7, 9}), []int{0, 0, 1, 1}
	if !slices.Equal(p, []int{0, 1, 0, 2}) || partition.Count(p) != 3 || !slices.Equal(partition.Sizes(p), []int{2, 1, 1}) || partition.Pairs(p) != 5 || partition.Largest(p) != 2 {
		t.Errorf("Of = %v, or its numbers", p)
	}
	if !slices.Equal(meet(p, q), []int{0, 1, 2, 3}) || !slices.Equal(join(p, q), []int{0, 0, 0, 0}) || refines(p, q) {
		t.Error("Meet, Join or Refines")
	}
	s := api.Set{Size: 4, Words: []uint64{7}}
	branches, code := partition.Branches(p, s)
	part, partCode := partition.Part(p, s, 0)
	if branches != 2 || code != api.OK || bitset.Text(part) != "{0, 2}/4" || partCode != api.OK {
		t.Errorf("Branches = %d, Part = %s", branches, bitset.Text(part))
	}
	all, _ := partition.All(3)
	if !slices.EqualFunc(all, [][]int{{0, 0, 0}, {0, 0, 1}, {0, 1, 0}, {0, 1, 1}, {0, 1, 2}}, slices.Equal[[]int]) {
		t.Errorf("All(3) = %v", all)
	}
}

// scribble changes a result in place, beyond its end where there is room.
func scribble(lists ...[]int) {
	for _, l := range lists {
		l = l[:cap(l)]
		for i := range l {
			l[i] = -99
		}
	}
}

// TestMemory changes all results in place and expects that neither the arguments nor other results change.
func TestMemory(t *testing.T) {
	for _, p := range valid(5) {
		argument, other := slices.Clone(p), make([]int, len(p))
		s := setOf(len(p), func(int) bool { return true })
		meet, _ := partition.Meet(argument, other)
		join, _ := partition.Join(argument, other)
		scribble(meet, join, partition.Of(argument), partition.Sizes(argument), partition.Class(argument, 0))
		for c := range partition.Count(p) {
			part, _ := partition.Part(argument, s, c)
			clear(part.Words[:cap(part.Words)])
		}
		if !slices.Equal(argument, p) || slices.ContainsFunc(other, func(c int) bool { return c != 0 }) || bitset.Count(s) != len(p) {
			t.Fatalf("an argument is shared or changed: %v", p)
		}
	}
	all, _ := partition.All(4)
	again, _ := partition.All(4)
	for i := range all {
		scribble(all[i])
		for j := i + 1; j < len(all); j++ {
			if !slices.Equal(all[j], again[j]) {
				t.Fatalf("the partitions %d and %d share memory", i, j)
			}
		}
	}
}
