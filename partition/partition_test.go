package partition_test

import (
	"math"
	"math/rand"
	"slices"
	"testing"

	"keyhole/api"
	"keyhole/partition"
)

// lists returns all lists of at most length numbers from low to high.
func lists(length, low, high int) [][]int {
	all := [][]int{nil}
	for from := 0; length > 0; length-- {
		to := len(all)
		for _, l := range all[from:to] {
			for n := low; n <= high; n++ {
				all = append(all, append(slices.Clone(l), n))
			}
		}
		from = to
	}
	return all
}

// isValid is the definition of a valid partition.
func isValid(p []int) bool {
	for i, c := range p {
		before := map[int]bool{}
		for _, d := range p[:i] {
			before[d] = true
		}
		if c < 0 || c > len(before) {
			return false
		}
	}
	return true
}

// valid returns all valid partitions of at most size elements.
func valid(size int) [][]int {
	return slices.DeleteFunc(lists(size, 0, size-1), func(p []int) bool { return !isValid(p) })
}

// ofSize returns the valid partitions of n elements.
func ofSize(n int) [][]int {
	return slices.DeleteFunc(valid(n), func(p []int) bool { return len(p) != n })
}

// broken returns lists that are no partitions.
func broken() [][]int {
	return [][]int{{1}, {-1}, {0, 2}, {0, -1}, {0, 1, 3}, {0, 0, 2, 1}, {1, 0}, {0, 1, 2, 4, 3}, {math.MaxInt}, {math.MinInt}, {0, math.MaxInt}, {0, 1, math.MinInt}}
}

// relation reports for each two elements whether they are together.
type relation [][]bool

func related(n int, together func(i, j int) bool) relation {
	r := make(relation, n)
	for i := range r {
		for j := range n {
			r[i] = append(r[i], together(i, j))
		}
	}
	return r
}

func relationOf(p []int) relation {
	return related(len(p), func(i, j int) bool { return p[i] == p[j] })
}

func (r relation) equal(other relation) bool {
	return slices.EqualFunc(r, other, slices.Equal[[]bool])
}

// closed returns the transitive closure of r.
func (r relation) closed() relation {
	c := related(len(r), func(i, j int) bool { return r[i][j] })
	for k := range c {
		for i := range c {
			for j := range c {
				c[i][j] = c[i][j] || c[i][k] && c[k][j]
			}
		}
	}
	return c
}

// within reports whether elements that are together in r are together in other.
func (r relation) within(other relation) bool {
	return r.equal(related(len(r), func(i, j int) bool { return r[i][j] && other[i][j] }))
}

func TestP4_1Valid(t *testing.T) {
	for _, p := range lists(6, -1, 5) {
		if got := partition.Valid(p); got != isValid(p) {
			t.Fatalf("Valid(%v) = %t", p, got)
		}
	}
	for _, p := range broken() {
		if partition.Valid(p) {
			t.Errorf("Valid(%v)", p)
		}
	}
	if !partition.Valid(nil) || !partition.Valid([]int{}) {
		t.Error("the empty list is not valid")
	}
}

func TestP4_1Of(t *testing.T) {
	check := func(labels []int) {
		t.Helper()
		p := partition.Of(labels)
		if !isValid(p) || !relationOf(p).equal(relationOf(labels)) {
			t.Fatalf("Of(%v) = %v", labels, p)
		}
		if again := partition.Of(p); !slices.Equal(again, p) {
			t.Fatalf("Of(%v) = %v", p, again)
		}
	}
	for _, labels := range lists(5, -2, 2) {
		check(labels)
	}
	for _, p := range valid(6) {
		if got := partition.Of(p); !slices.Equal(got, p) {
			t.Fatalf("Of(%v) = %v", p, got)
		}
	}
	check([]int{math.MaxInt, math.MinInt, 0, -1, math.MinInt, math.MaxInt, 1 << 32, 0})
	source := rand.New(rand.NewSource(1))
	for _, size := range []int{10, 100, 300} {
		labels := make([]int, size)
		for i := range labels {
			labels[i] = (source.Intn(size) - size/2) << 50
		}
		check(labels)
	}
}

func TestP4_1ManyLabels(t *testing.T) {
	labels := make([]int, 200000)
	for i := range labels {
		labels[i] = -i / 2
	}
	p := partition.Of(labels)
	if !partition.Valid(p) || partition.Count(p) != 100000 || p[199999] != 99999 {
		t.Error("a partition of 200000 elements into pairs")
	}
}

// checkNumbers compares Count, Sizes, Class, Pairs and Largest with their definitions.
func checkNumbers(t *testing.T, p []int) {
	t.Helper()
	var sizes []int
	pairs, largest := 0, 0
	for c := 0; slices.Contains(p, c); c++ {
		var class []int
		for i := range p {
			if p[i] == c {
				class = append(class, i)
			}
		}
		sizes = append(sizes, len(class))
		largest = max(largest, len(class))
		if got := partition.Class(p, c); !slices.Equal(got, class) {
			t.Fatalf("Class(%v, %d) = %v", p, c, got)
		}
	}
	for i := range p {
		for j := range i {
			if p[i] != p[j] {
				pairs++
			}
		}
	}
	if partition.Count(p) != len(sizes) || !slices.Equal(partition.Sizes(p), sizes) || partition.Pairs(p) != pairs || partition.Largest(p) != largest {
		t.Fatalf("Count, Sizes, Pairs or Largest of %v: %d, %v, %d, %d", p, partition.Count(p), partition.Sizes(p), partition.Pairs(p), partition.Largest(p))
	}
	for _, c := range []int{len(sizes), len(sizes) + 1, -1, math.MaxInt, math.MinInt} {
		if got := partition.Class(p, c); len(got) != 0 {
			t.Fatalf("Class(%v, %d) = %v", p, c, got)
		}
	}
}

// checkNothing fails if p, which is not valid, has classes.
func checkNothing(t *testing.T, p []int) {
	t.Helper()
	if partition.Count(p) != 0 || len(partition.Sizes(p)) != 0 || partition.Pairs(p) != 0 || partition.Largest(p) != 0 {
		t.Fatalf("%v has classes", p)
	}
	for c := -2; c <= len(p)+1; c++ {
		if len(partition.Class(p, c)) != 0 {
			t.Fatalf("%v has the class %d", p, c)
		}
	}
	for _, c := range p {
		if len(partition.Class(p, c)) != 0 {
			t.Fatalf("%v has the class %d", p, c)
		}
	}
}

func TestP4_2Numbers(t *testing.T) {
	for _, p := range lists(5, -1, 4) {
		if isValid(p) {
			checkNumbers(t, p)
		} else {
			checkNothing(t, p)
		}
	}
	for _, p := range broken() {
		checkNothing(t, p)
	}
	checkNumbers(t, []int{})
	source := rand.New(rand.NewSource(2))
	for _, size := range []int{64, 65, 500} {
		for _, classes := range []int{1, 3, size} {
			labels := make([]int, size)
			for i := range labels {
				labels[i] = source.Intn(classes)
			}
			checkNumbers(t, partition.Of(labels))
		}
	}
}

func TestP4_2LargePairs(t *testing.T) {
	p := make([]int, 300000)
	for i := range p {
		p[i] = i
	}
	if got := partition.Pairs(p); got != 300000*299999/2 {
		t.Errorf("Pairs of single elements = %d", got)
	}
	clear(p)
	if got := partition.Pairs(p); got != 0 {
		t.Errorf("Pairs of one class = %d", got)
	}
}

// checkOrder compares Meet, Join and Refines of two valid partitions of equally many elements with their definitions.
func checkOrder(t *testing.T, p, q []int) {
	t.Helper()
	r, s := relationOf(p), relationOf(q)
	meet, code := partition.Meet(p, q)
	if code != api.OK || !isValid(meet) || !relationOf(meet).equal(related(len(p), func(i, j int) bool { return r[i][j] && s[i][j] })) {
		t.Fatalf("Meet(%v, %v) = %v, %d", p, q, meet, code)
	}
	join, code := partition.Join(p, q)
	if code != api.OK || !isValid(join) || !relationOf(join).equal(related(len(p), func(i, j int) bool { return r[i][j] || s[i][j] }).closed()) {
		t.Fatalf("Join(%v, %v) = %v, %d", p, q, join, code)
	}
	if refines, code := partition.Refines(p, q); code != api.OK || refines != r.within(s) {
		t.Fatalf("Refines(%v, %v) = %t, %d", p, q, refines, code)
	}
}

func TestP4_3Order(t *testing.T) {
	for n := range 7 {
		all := ofSize(n)
		for _, p := range all {
			for _, q := range all {
				checkOrder(t, p, q)
			}
		}
	}
	source := rand.New(rand.NewSource(3))
	for range 60 {
		labels := [2][]int{make([]int, 40), make([]int, 40)}
		for i := range 40 {
			labels[0][i], labels[1][i] = source.Intn(25), source.Intn(25)
		}
		checkOrder(t, partition.Of(labels[0]), partition.Of(labels[1]))
	}
}

// TestP4_3Most checks that no partition that p and q refine has as many classes as their join.
func TestP4_3Most(t *testing.T) {
	all := ofSize(5)
	for _, p := range all {
		for _, q := range all {
			most, number := []int(nil), 0
			for _, r := range all {
				if !relationOf(p).within(relationOf(r)) || !relationOf(q).within(relationOf(r)) {
					continue
				}
				if slices.Max(r) > slices.Max(append([]int{-1}, most...)) {
					most, number = r, 0
				}
				if slices.Max(r) == slices.Max(most) {
					number++
				}
			}
			if join, code := partition.Join(p, q); code != api.OK || number != 1 || !slices.Equal(join, most) {
				t.Fatalf("Join(%v, %v) = %v, %d, want %v", p, q, join, code, most)
			}
		}
	}
}

// TestP4_3Long joins the pairs 0 1, 2 3, .. with the pairs 1 2, 3 4, .., which leaves one class.
func TestP4_3Long(t *testing.T) {
	const size = 200000
	p, q, reversed := make([]int, size), make([]int, size), make([]int, size)
	for i := range size {
		p[i], q[i], reversed[i] = i/2, (i+1)/2, (size-1-i+1)/2
	}
	for _, pair := range [][2][]int{{p, q}, {q, p}, {p, partition.Of(reversed)}} {
		meet, code := partition.Meet(pair[0], pair[1])
		if code != api.OK || partition.Count(meet) != size {
			t.Errorf("Meet has %d classes, code %d", partition.Count(meet), code)
		}
		join, code := partition.Join(pair[0], pair[1])
		if code != api.OK || partition.Count(join) != 1 || len(join) != size {
			t.Errorf("Join has %d classes, code %d", partition.Count(join), code)
		}
		if refines, code := partition.Refines(pair[0], pair[1]); refines || code != api.OK {
			t.Errorf("Refines = %t, %d", refines, code)
		}
	}
}

// refuse fails unless Meet, Join and Refines return the code want and zero values.
func refuse(t *testing.T, want api.Code, p, q []int) {
	t.Helper()
	if meet, code := partition.Meet(p, q); code != want || len(meet) != 0 {
		t.Errorf("Meet(%v, %v) = %v, %d, want code %d", p, q, meet, code, want)
	}
	if join, code := partition.Join(p, q); code != want || len(join) != 0 {
		t.Errorf("Join(%v, %v) = %v, %d, want code %d", p, q, join, code, want)
	}
	if refines, code := partition.Refines(p, q); code != want || refines {
		t.Errorf("Refines(%v, %v) = %t, %d, want code %d", p, q, refines, code, want)
	}
}

func TestP4_3Errors(t *testing.T) {
	for _, bad := range broken() {
		for _, other := range append(broken(), nil, []int{0}, []int{0, 0}, []int{0, 1, 2}) {
			refuse(t, api.ErrArgument, bad, other)
			refuse(t, api.ErrArgument, other, bad)
		}
	}
	for _, p := range valid(4) {
		for _, q := range valid(4) {
			if len(p) != len(q) {
				refuse(t, api.ErrMismatch, p, q)
			}
		}
	}
}

func TestP4_7All(t *testing.T) {
	for n, count := range []int{1, 1, 2, 5, 15, 52, 203, 877, 4140} {
		all, code := partition.All(n)
		if code != api.OK || len(all) != count {
			t.Fatalf("All(%d) has %d partitions, code %d", n, len(all), code)
		}
		for i, p := range all {
			if len(p) != n || !isValid(p) || i > 0 && slices.Compare(all[i-1], p) >= 0 {
				t.Fatalf("All(%d) has %v at %d", n, p, i)
			}
		}
		if n <= 6 && !slices.EqualFunc(all, ofSize(n), slices.Equal[[]int]) {
			t.Errorf("All(%d) = %v", n, all)
		}
	}
	for n, want := range map[int]api.Code{-1: api.ErrArgument, math.MinInt: api.ErrArgument, 9: api.ErrLimit, 10: api.ErrLimit, math.MaxInt: api.ErrLimit} {
		if all, code := partition.All(n); code != want || len(all) != 0 {
			t.Errorf("All(%d) has %d partitions, code %d", n, len(all), code)
		}
	}
}
