package domain_test

import (
	"slices"
	"testing"

	"keyhole/api"
	"keyhole/domain"
)

func variable(kind api.Kind, low, high int) api.Var {
	return api.Var{Name: "v", Kind: kind, Low: low, High: high}
}

func repeated(v api.Var, n int) []api.Var {
	return slices.Repeat([]api.Var{v}, n)
}

func expectSpace(t *testing.T, vars []api.Var, kind api.Kind) api.Code {
	t.Helper()
	want, code := 0, codeOf(vars, kind)
	if code == api.OK {
		want = len(vectorsOf(vars, kind))
	}
	if got, gotCode := domain.Space(vars, kind); got != want || gotCode != code {
		t.Fatalf("Space(%v, %d) = %d, %d, want %d, %d", vars, kind, got, gotCode, want, code)
	}
	return code
}

func TestP13_1Space(t *testing.T) {
	g := newGenerator(131)
	codes := map[api.Code]int{}
	for range 20000 {
		codes[expectSpace(t, g.vars(), pick[api.Kind](g, -1, 0, 1, 1, 2, 2, 3, 3, 4))]++
	}
	for _, code := range []api.Code{api.OK, api.ErrArgument, api.ErrRange, api.ErrLimit} {
		if codes[code] < 200 {
			t.Errorf("only %d spaces with the code %d", codes[code], code)
		}
	}
}

func TestP13_1Limits(t *testing.T) {
	for _, kind := range kinds {
		one := func(low, high int) []api.Var { return []api.Var{variable(kind, low, high)} }
		for _, c := range []struct {
			vars  []api.Var
			space int
			code  api.Code
		}{
			{nil, 1, api.OK}, {one(0, 0), 1, api.OK}, {one(1, 4096), 4096, api.OK}, {one(0, 4096), 0, api.ErrLimit}, {one(-1<<20, -1<<20), 1, api.OK},
			{one(1<<20, 1<<20), 1, api.OK}, {one(-1<<20-1, -1<<20), 0, api.ErrRange}, {one(1<<20, 1<<20+1), 0, api.ErrRange}, {one(1, 0), 0, api.ErrRange},
			{one(-1<<63, 1<<63-1), 0, api.ErrRange}, {one(1<<63-1, -1<<63), 0, api.ErrRange}, {one(-1<<20, 1<<20), 0, api.ErrLimit},
			{repeated(variable(kind, 0, 1), 12), 4096, api.OK}, {repeated(variable(kind, 0, 1), 13), 0, api.ErrLimit},
			// The number of vectors is a multiple of 2^64.
			{repeated(variable(kind, 1, 1<<16), 4), 0, api.ErrLimit}, {repeated(variable(kind, 0, 1), 64), 0, api.ErrLimit}, {repeated(variable(kind, 0, 1), 70), 0, api.ErrLimit},
			{append(repeated(variable(kind, -1<<20, 1<<20), 1000), variable(kind, 3, 3)), 0, api.ErrLimit},
			{append(one(0, 63), variable(kind, 1, 64)), 4096, api.OK}, {append(one(0, 63), variable(kind, 0, 64)), 0, api.ErrLimit},
			// Bounds come before the limit, wherever they are.
			{append(one(0, 4096), variable(kind, 1, 0)), 0, api.ErrRange}, {append(one(1, 0), variable(kind, 0, 4096)), 0, api.ErrRange},
			{append(repeated(variable(kind, 0, 1), 64), variable(kind, 0, 1<<20+1)), 0, api.ErrRange},
		} {
			if got, code := domain.Space(c.vars, kind); got != c.space || code != c.code {
				t.Errorf("Space(%v, %d) = %d, %d, want %d, %d", c.vars, kind, got, code, c.space, c.code)
			}
		}
	}
}

// calls calls every function for a kind, with vectors that would not fit.
func calls(vars []api.Var, kind api.Kind, vector []int) []api.Code {
	var codes [5]api.Code
	var results [7]int
	results[0], codes[0] = domain.Space(vars, kind)
	results[1], codes[1] = domain.Rank(vars, kind, vector)
	values, code := domain.Unrank(vars, kind, -1)
	results[2], codes[2] = len(values), code
	values, found, code := domain.Next(vars, kind, vector)
	results[3], codes[3] = len(values), code
	ranks, code := domain.Within(vars, kind, vector, vector)
	results[4], codes[4] = len(ranks), code
	if found || results != [7]int{} {
		return nil
	}
	return codes[:]
}

// TestErrorsInCommon asks every function for the errors that come before its own ones.
func TestErrorsInCommon(t *testing.T) {
	invalid := []api.Var{variable(api.Secret, 1, 0), variable(api.Public, 0, 4096), variable(api.Random, 0, 4096), variable(api.Local, 0, 4096), variable(9, 0, 0)}
	for kind, want := range map[api.Kind]api.Code{
		-1: api.ErrArgument, 4: api.ErrArgument, 9: api.ErrArgument, -1 << 63: api.ErrArgument,
		api.Secret: api.ErrRange, api.Public: api.ErrLimit, api.Random: api.ErrLimit, api.Local: api.ErrLimit,
	} {
		for _, vector := range [][]int{nil, {0}, {-5}, {1, 2, 3}} {
			if got := calls(invalid, kind, vector); !slices.Equal(got, []api.Code{want, want, want, want, want}) {
				t.Errorf("kind %d, vector %v: %v, want %d", kind, vector, got, want)
			}
		}
	}
}

func TestP13_2Inverse(t *testing.T) {
	g := newGenerator(132)
	for range 400 {
		vars, kind := g.valid(), pick(g, kinds...)
		vectors := vectorsOf(vars, kind)
		for rank, vector := range vectors {
			if got, code := domain.Rank(vars, kind, vector); got != rank || code != api.OK {
				t.Fatalf("Rank(%v, %d, %v) = %d, %d, want %d", vars, kind, vector, got, code, rank)
			}
			if got, code := domain.Unrank(vars, kind, rank); !slices.Equal(got, vector) || code != api.OK {
				t.Fatalf("Unrank(%v, %d, %d) = %v, %d, want %v", vars, kind, rank, got, code, vector)
			}
		}
		for _, rank := range []int{-1, len(vectors), len(vectors) + 1, 4096, 1<<63 - 1, -1 << 63} {
			if got, code := domain.Unrank(vars, kind, rank); got != nil || code != api.ErrRange {
				t.Fatalf("Unrank(%v, %d, %d) = %v, %d", vars, kind, rank, got, code)
			}
		}
	}
}

func TestP13_2WrongVectors(t *testing.T) {
	g := newGenerator(1322)
	codes := map[api.Code]int{}
	for range 15000 {
		vars, kind := g.valid(), pick(g, kinds...)
		vectors := vectorsOf(vars, kind)
		vector := g.wrong(pick(g, vectors...))
		want := api.OK
		if len(vector) != len(vectors[0]) {
			want = api.ErrMismatch
		} else if !between(vector, vectors[0], vectors[len(vectors)-1]) {
			want = api.ErrRange
		}
		rank, code := domain.Rank(vars, kind, vector)
		next, found, nextCode := domain.Next(vars, kind, vector)
		if code != want || nextCode != want || code != api.OK && (rank != 0 || next != nil || found) {
			t.Fatalf("%v, %d, %v: Rank %d, %d, Next %v, %t, %d, want %d", vars, kind, vector, rank, code, next, found, nextCode, want)
		}
		codes[code]++
	}
	for _, code := range []api.Code{api.OK, api.ErrMismatch, api.ErrRange} {
		if codes[code] < 200 {
			t.Errorf("only %d vectors with the code %d", codes[code], code)
		}
	}
}

func TestP13_3Order(t *testing.T) {
	g := newGenerator(133)
	for range 3000 {
		vars, kind := g.valid(), pick(g, kinds...)
		vectors := vectorsOf(vars, kind)
		a, b := pick(g, vectors...), pick(g, vectors...)
		first, _ := domain.Rank(vars, kind, a)
		second, _ := domain.Rank(vars, kind, b)
		if want := slices.Compare(a, b); want != compare(first, second) {
			t.Fatalf("%v, %d: the ranks of %v and %v are %d and %d", vars, kind, a, b, first, second)
		}
	}
}

func compare(a, b int) int {
	return min(max(a-b, -1), 1)
}

func TestP13_4Next(t *testing.T) {
	g := newGenerator(134)
	for range 400 {
		vars, kind := g.valid(), pick(g, kinds...)
		vectors := vectorsOf(vars, kind)
		vector, code := domain.Unrank(vars, kind, 0)
		for rank := range vectors {
			if code != api.OK || !slices.Equal(vector, vectors[rank]) {
				t.Fatalf("%v, %d: the vector %d is %v, %d, want %v", vars, kind, rank, vector, code, vectors[rank])
			}
			var found bool
			if vector, found, code = domain.Next(vars, kind, vector); found != (rank+1 < len(vectors)) {
				t.Fatalf("%v, %d: after the vector %d of %d: %v, %t, %d", vars, kind, rank, len(vectors), vector, found, code)
			}
		}
		if vector != nil || code != api.OK {
			t.Fatalf("%v, %d: after the last vector: %v, %d", vars, kind, vector, code)
		}
	}
}

func TestP13_5Inputs(t *testing.T) {
	g := newGenerator(135)
	codes := map[api.Code]int{}
	for range 10000 {
		vars := g.vars()
		ranks := map[api.Kind]int{}
		want := api.Inputs{}
		code := api.OK
		for _, part := range []struct {
			kind   api.Kind
			vector *[]int
		}{{api.Secret, &want.Secret}, {api.Public, &want.Public}, {api.Random, &want.Random}} {
			ranks[part.kind] = pick(g, 0, 0, 0, 1, 2, 3, 100, -1)
			if code != api.OK {
				continue
			}
			*part.vector, code = domain.Unrank(vars, part.kind, ranks[part.kind])
		}
		if code != api.OK {
			want = api.Inputs{}
		}
		got, gotCode := domain.Inputs(vars, ranks[api.Secret], ranks[api.Public], ranks[api.Random])
		if !slices.Equal(got.Secret, want.Secret) || !slices.Equal(got.Public, want.Public) || !slices.Equal(got.Random, want.Random) || gotCode != code {
			t.Fatalf("Inputs(%v, %v) = %v, %d, want %v, %d", vars, ranks, got, gotCode, want, code)
		}
		codes[code]++
	}
	for _, code := range []api.Code{api.OK, api.ErrRange, api.ErrLimit} {
		if codes[code] < 200 {
			t.Errorf("only %d inputs with the code %d", codes[code], code)
		}
	}
}

func TestP13_5Order(t *testing.T) {
	good := []api.Var{variable(api.Secret, 1, 3), variable(api.Public, 4, 5), variable(api.Random, 6, 6), variable(api.Local, 1, 0)}
	large := func(kind api.Kind) []api.Var { return append(slices.Clone(good), variable(kind, 0, 4095)) }
	for _, c := range []struct {
		vars                   []api.Var
		secret, public, random int
		code                   api.Code
	}{
		{good, 2, 1, 0, api.OK}, {good, 3, 0, 0, api.ErrRange}, {good, 0, 2, 0, api.ErrRange}, {good, 0, 0, 1, api.ErrRange}, {good, -1, 0, 0, api.ErrRange},
		{large(api.Secret), 0, 0, 0, api.ErrLimit}, {large(api.Public), 0, 0, 0, api.ErrLimit}, {large(api.Local), 0, 0, 0, api.OK}, {large(api.Random), 0, 0, 4095, api.OK},
		{large(api.Secret), 0, 2, 0, api.ErrLimit}, {large(api.Public), 3, 0, 0, api.ErrRange}, {large(api.Public), 0, 0, 1, api.ErrLimit},
		{append(large(api.Random), variable(api.Random, 0, 1)), 0, 2, 0, api.ErrRange}, {append(large(api.Random), variable(api.Random, 0, 1)), 0, 1, 0, api.ErrLimit},
	} {
		if _, code := domain.Inputs(c.vars, c.secret, c.public, c.random); code != c.code {
			t.Errorf("Inputs(%v, %d, %d, %d) = %d, want %d", c.vars, c.secret, c.public, c.random, code, c.code)
		}
	}
	got, _ := domain.Inputs(good, 2, 1, 0)
	if !slices.Equal(got.Secret, []int{3}) || !slices.Equal(got.Public, []int{5}) || !slices.Equal(got.Random, []int{6}) {
		t.Errorf("%v", got)
	}
}
