package domain_test

import (
	"slices"
	"testing"

	"keyhole/api"
	"keyhole/domain"
)

func expectWithin(t *testing.T, vars []api.Var, kind api.Kind, low, high []int) int {
	t.Helper()
	var want []int
	for rank, vector := range vectorsOf(vars, kind) {
		if between(vector, low, high) {
			want = append(want, rank)
		}
	}
	if got, code := domain.Within(vars, kind, low, high); !slices.Equal(got, want) || code != api.OK {
		t.Fatalf("Within(%v, %d, %v, %v) = %v, %d, want %v", vars, kind, low, high, got, code, want)
	}
	return len(want)
}

// corner returns a corner of a box near a vector, sometimes far away from it.
func (g generator) corner(vector []int, distance int) []int {
	vector = slices.Clone(vector)
	for i := range vector {
		vector[i] += distance * pick(g, 0, 0, 1, 2, 3, 8, 1<<40)
		if g.Intn(20) == 0 {
			vector[i] = pick(g, 1<<63-1, -1<<63, 0)
		}
	}
	return vector
}

func TestP13_6Within(t *testing.T) {
	g := newGenerator(136)
	sizes := map[int]int{}
	for range 4000 {
		vars, kind := g.valid(), pick(g, kinds...)
		vectors := vectorsOf(vars, kind)
		vector := pick(g, vectors...)
		low, high := g.corner(vector, -1), g.corner(vector, 1)
		sizes[min(expectWithin(t, vars, kind, low, high), 2)]++
		expectWithin(t, vars, kind, vector, vector)
		expectWithin(t, vars, kind, vector, pick(g, vectors...))
		expectWithin(t, vars, kind, vectors[0], vectors[len(vectors)-1])
		wrong := slices.Concat(low, high, []int{0})
		if len(low) > 0 && g.Intn(2) == 0 {
			wrong = low[1:]
		}
		for _, box := range [][2][]int{{wrong, high}, {low, wrong}, {wrong, wrong}} {
			if got, code := domain.Within(vars, kind, box[0], box[1]); got != nil || code != api.ErrMismatch {
				t.Fatalf("Within(%v, %d, %v) = %v, %d", vars, kind, box, got, code)
			}
		}
	}
	for size := range 3 {
		if sizes[size] < 200 {
			t.Errorf("only %d boxes with %d vectors", sizes[size], size)
		}
	}
}

// TestP13_6Boxes asks for all boxes around a small space.
func TestP13_6Boxes(t *testing.T) {
	vars := []api.Var{variable(api.Secret, -1, 1), variable(api.Public, 3, 2), variable(api.Secret, 7, 7), variable(api.Secret, 0, 1)}
	corner := func(i int) []int { return []int{i%5 - 2, 6 + i/5%3, i/15 - 1} }
	for i := range 60 {
		for j := range 60 {
			expectWithin(t, vars, api.Secret, corner(i), corner(j))
		}
	}
}

func TestP13_6FarCorners(t *testing.T) {
	vars := []api.Var{variable(api.Public, -1<<20, -1<<20+1), variable(api.Public, 1<<20-1, 1<<20)}
	ends := []int{-1 << 63, -1 << 20, 0, 1 << 20, 1<<63 - 1}
	for _, a := range ends {
		for _, b := range ends {
			for _, c := range ends {
				for _, d := range ends {
					expectWithin(t, vars, api.Public, []int{a, b}, []int{c, d})
				}
			}
		}
	}
	if ranks, code := domain.Within(nil, api.Secret, nil, []int{}); !slices.Equal(ranks, []int{0}) || code != api.OK {
		t.Errorf("the empty vector: %v, %d", ranks, code)
	}
}

func TestP13_7OtherKinds(t *testing.T) {
	g := newGenerator(137)
	for range 2000 {
		vars, kind := g.valid(), pick(g, kinds...)
		var mixed []api.Var
		for _, v := range vars {
			if v.Kind != kind {
				continue
			}
			for range g.Intn(3) {
				other := api.Var{Kind: pick[api.Kind](g, -1, 0, 1, 2, 3, 4), Low: pick(g, 0, 5, -1<<63), High: pick(g, 1<<63-1, 0, 9), Name: "x"}
				if other.Kind != kind {
					mixed = append(mixed, other)
				}
			}
			// Names and Init do not matter either.
			v.Name, v.Init = pick(g, "", "A b", v.Name), pick(g, 0, -9, 1<<62)
			mixed = append(mixed, v)
		}
		vectors := vectorsOf(vars, kind)
		rank := g.Intn(len(vectors))
		space, code := domain.Space(mixed, kind)
		if space != len(vectors) || code != api.OK {
			t.Fatalf("Space(%v, %d) = %d, %d, want %d", mixed, kind, space, code, len(vectors))
		}
		vector, code := domain.Unrank(mixed, kind, rank)
		if !slices.Equal(vector, vectors[rank]) || code != api.OK {
			t.Fatalf("Unrank(%v, %d, %d) = %v, %d, want %v", mixed, kind, rank, vector, code, vectors[rank])
		}
		if got, code := domain.Rank(mixed, kind, vector); got != rank || code != api.OK {
			t.Fatalf("Rank(%v, %d, %v) = %d, %d, want %d", mixed, kind, vector, got, code, rank)
		}
		if next, found, code := domain.Next(mixed, kind, vector); code != api.OK || found != (rank+1 < space) || found && !slices.Equal(next, vectors[rank+1]) {
			t.Fatalf("Next(%v, %d, %v) = %v, %t, %d", mixed, kind, vector, next, found, code)
		}
		expectWithin(t, mixed, kind, vectors[0], vector)
	}
}

// TestManyVariables has more variables than any program, most of which have one value.
func TestManyVariables(t *testing.T) {
	vars := repeated(variable(api.Random, 3, 3), 1<<19)
	for i := range 12 {
		vars[i*40000].High = 4
	}
	low, high := make([]int, len(vars)), make([]int, len(vars))
	for i := range vars {
		low[i], high[i] = 3, 4
	}
	if space, code := domain.Space(vars, api.Random); space != 4096 || code != api.OK {
		t.Errorf("%d, %d", space, code)
	}
	ranks, code := domain.Within(vars, api.Random, low, high)
	if len(ranks) != 4096 || code != api.OK || !slices.IsSorted(ranks) {
		t.Errorf("%d, %d", len(ranks), code)
	}
	last, code := domain.Unrank(vars, api.Random, 4095)
	if code != api.OK || last[0] != 4 || last[1] != 3 || last[440000] != 4 {
		t.Errorf("%d", code)
	}
}

func TestExamples(t *testing.T) {
	vars := []api.Var{{Name: "a", Kind: api.Secret, High: 2}, {Name: "p", Kind: api.Public, Low: 5, High: 5}, {Name: "b", Kind: api.Secret, Low: -1}}
	for rank, want := range [][]int{{0, -1}, {0, 0}, {1, -1}, {1, 0}, {2, -1}, {2, 0}} {
		if got, code := domain.Unrank(vars, api.Secret, rank); !slices.Equal(got, want) || code != api.OK {
			t.Errorf("Unrank(%d) = %v, %d", rank, got, code)
		}
	}
	if space, code := domain.Space(vars, api.Secret); space != 6 || code != api.OK {
		t.Errorf("Space = %d, %d", space, code)
	}
	if rank, code := domain.Rank(vars, api.Secret, []int{1, 0}); rank != 3 || code != api.OK {
		t.Errorf("Rank = %d, %d", rank, code)
	}
	if next, found, code := domain.Next(vars, api.Secret, []int{1, 0}); !slices.Equal(next, []int{2, -1}) || !found || code != api.OK {
		t.Errorf("Next = %v, %t, %d", next, found, code)
	}
	if next, found, code := domain.Next(vars, api.Secret, []int{2, 0}); next != nil || found || code != api.OK {
		t.Errorf("Next of the last one = %v, %t, %d", next, found, code)
	}
	if ranks, code := domain.Within(vars, api.Secret, []int{1, -5}, []int{9, -1}); !slices.Equal(ranks, []int{2, 4}) || code != api.OK {
		t.Errorf("Within = %v, %d", ranks, code)
	}
	if space, code := domain.Space(vars, api.Random); space != 1 || code != api.OK {
		t.Errorf("Space of random inputs = %d, %d", space, code)
	}
	if rank, code := domain.Rank(vars, api.Random, nil); rank != 0 || code != api.OK {
		t.Errorf("Rank of the empty vector = %d, %d", rank, code)
	}
}

// TestMemory changes results, which nothing else must show.
func TestMemory(t *testing.T) {
	vars := []api.Var{variable(api.Secret, 0, 3), variable(api.Public, 0, 3), variable(api.Random, 0, 3)}
	before, values := slices.Clone(vars), []int{1}
	next, _, _ := domain.Next(vars, api.Secret, values)
	next[0] = 9
	first, _ := domain.Inputs(vars, 1, 2, 3)
	first.Secret[0], first.Public[0], first.Random[0] = 7, 8, 9
	second, _ := domain.Inputs(vars, 1, 2, 3)
	if second.Secret[0] != 1 || second.Public[0] != 2 || second.Random[0] != 3 || values[0] != 1 || !slices.Equal(vars, before) {
		t.Errorf("%v, %v, %v", second, values, vars)
	}
	low, high := []int{-5}, []int{5}
	ranks, _ := domain.Within(vars, api.Secret, low, high)
	if ranks[0] = 9; low[0] != -5 || high[0] != 5 {
		t.Errorf("%v, %v", low, high)
	}
}
