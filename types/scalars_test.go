package types_test

import (
	"math"
	"math/big"
	"slices"
	"strings"
	"testing"

	"keyhole/api"
	"keyhole/types"
)

// each calls visit for valid types, ordinary ones and those at the limits.
func each(seed int64, rounds int, visit func(g generator, t api.Type)) {
	g := newGenerator(seed)
	for range rounds {
		visit(g, g.valid(1+g.Intn(5)))
	}
	for _, t := range []api.Type{{}, arrays(api.Type{}, 32), arrays(api.Type{}, 1, 1, 1, 1, 1, 1, 1, 1, 1, 1, 1), record(repeated(api.Type{}, 32)...),
		arrays(api.Type{Kind: api.TypeInt, Low: -1 << 20, High: 1 << 20}, 32), record(arrays(api.Type{}, 2, 5), record(arrays(api.Type{}, 11)), api.Type{})} {
		visit(g, t)
	}
}

// invalid calls visit for types that are not valid.
func invalid(seed int64, visit func(t api.Type, code api.Code)) {
	g := newGenerator(seed)
	for range 5000 {
		t := g.kind(1+g.Intn(4), "a", "n")
		if g.Intn(2) == 0 {
			g.mutate(&t)
		}
		if code := check(t); code != api.OK {
			visit(t, code)
		}
	}
}

func TestP12_3Scalars(t *testing.T) {
	each(1231, 8000, func(_ generator, kind api.Type) {
		list, code := types.Scalars(kind)
		if want := scalarsOf(kind); code != api.OK || !slices.Equal(list, want) {
			t.Fatalf("Scalars(%+v) = %+v, %d, want %+v", kind, list, code, want)
		}
	})
	invalid(1232, func(kind api.Type, code api.Code) {
		if list, got := types.Scalars(kind); len(list) != 0 || got != code {
			t.Fatalf("Scalars(%+v) = %+v, %d, want %d", kind, list, got, code)
		}
		if n, got := types.Values(kind); n != 0 || got != code {
			t.Fatalf("Values(%+v) = %d, %d, want %d", kind, n, got, code)
		}
	})
}

// product returns the number of values of a type, however large, from those of its components.
func product(t api.Type) *big.Int {
	total := big.NewInt(1)
	switch t.Kind {
	case api.TypeBool:
		return big.NewInt(2)
	case api.TypeInt:
		return big.NewInt(int64(t.High) - int64(t.Low) + 1)
	case api.TypeArray:
		return new(big.Int).Exp(product(t.Of[0]), big.NewInt(int64(t.Size)), nil)
	}
	for _, of := range t.Of {
		total.Mul(total, product(of))
	}
	return total
}

// expectValues fails unless Values returns the product, or ErrLimit if that is too large.
func expectValues(t *testing.T, kind api.Type) api.Code {
	t.Helper()
	want, wantCode := product(kind), api.OK
	if want.Cmp(big.NewInt(1<<40)) > 0 {
		want, wantCode = new(big.Int), api.ErrLimit
	}
	n, code := types.Values(kind)
	if code != wantCode || want.Cmp(big.NewInt(int64(n))) != 0 {
		t.Fatalf("Values(%+v) = %d, %d, want %v, %d", kind, n, code, want, wantCode)
	}
	return code
}

func TestP12_3Values(t *testing.T) {
	codes := map[api.Code]int{}
	each(1233, 8000, func(_ generator, kind api.Type) { codes[expectValues(t, kind)]++ })
	if codes[api.OK] < 1000 || codes[api.ErrLimit] < 300 {
		t.Errorf("codes %v", codes)
	}
	values := func(n int) api.Type { return api.Type{Kind: api.TypeInt, Low: 1, High: n} }
	for _, c := range []struct {
		kind api.Type
		code api.Code
	}{
		{arrays(values(1<<20), 2), api.OK}, {record(values(1<<20), values(1<<20), values(1)), api.OK}, {record(values(1<<20), values(1<<20), values(2)), api.ErrLimit},
		{arrays(values(1<<10), 4), api.OK}, {record(values(1<<20), api.Type{Kind: api.TypeInt, Low: 0, High: 1 << 20}), api.ErrLimit}, {arrays(values(2), 32), api.OK},
		{arrays(values(3), 25), api.OK}, {arrays(values(3), 26), api.ErrLimit}, {arrays(values(1), 32), api.OK}, {arrays(values(1<<16), 32), api.ErrLimit}, {arrays(api.Type{}, 32), api.OK},
		{record(arrays(api.Type{}, 31), values(1<<9)), api.OK}, {record(arrays(api.Type{}, 31), values(1<<9+1)), api.ErrLimit}, {arrays(api.Type{Kind: api.TypeInt, Low: -1 << 20, High: 1 << 20}, 32), api.ErrLimit},
	} {
		if code := expectValues(t, c.kind); code != c.code {
			t.Errorf("Values(%+v): %d, want %d", c.kind, code, c.code)
		}
	}
}

func TestP12_4Find(t *testing.T) {
	each(1241, 5000, func(_ generator, kind api.Type) {
		scalars, _ := types.Scalars(kind)
		for _, p := range partsOf(kind) {
			found, at, code := types.Find(kind, p.path)
			if code != api.OK || !same(found, p.of) || at != firstOf(kind, p.path) {
				t.Fatalf("Find(%+v, %q) = %+v, %d, %d", kind, p.path, found, at, code)
			}
			within, code := types.Scalars(found)
			for i, s := range within {
				s.Path = p.path + s.Path
				if code != api.OK || scalars[at+i] != s {
					t.Fatalf("Find(%+v, %q) = %+v, %d, but the scalar %d is %+v", kind, p.path, found, at, at+i, scalars[at+i])
				}
			}
		}
		for i, s := range scalars {
			if found, at, code := types.Find(kind, s.Path); code != api.OK || at != i || len(found.Of) != 0 {
				t.Fatalf("Find(%+v, %q) = %+v, %d, %d", kind, s.Path, found, at, code)
			}
		}
	})
}

func TestP12_4NoComponent(t *testing.T) {
	each(1242, 3000, func(g generator, kind api.Type) {
		parts := partsOf(kind)
		paths := map[string]bool{}
		for _, p := range parts {
			paths[p.path] = true
		}
		for range 20 {
			path := pick(g, parts...).path
			at := g.Intn(len(path) + 1)
			insert := pick(g, "", ".", "..", "0", ".0", ".a", "a", ".00", ".-1", ".+1", ".1", ".2", ".32", ".99999999999999999999", " ", "\x00", "é", ".b.c", "x1")
			for _, other := range []string{path[:at] + insert + path[at:], path + insert, insert + path, insert, path[:at], path[at:]} {
				found, first, code := types.Find(kind, other)
				if paths[other] {
					continue
				}
				if !same(found, api.Type{}) || first != 0 || code != api.ErrName {
					t.Fatalf("Find(%+v, %q) = %+v, %d, %d", kind, other, found, first, code)
				}
			}
		}
	})
	kind := arrays(record(api.Type{}, arrays(api.Type{}, 2)), 3)
	for _, path := range []string{".", "0", ".0.", ".00", ".01.a", ".3", ".-0", ".a", ".0.a.0", ".0.b.2", ".0.c", "..0", ".0..a", " .0", ".0 ", ".0.A", strings.Repeat(".0", 1<<16), strings.Repeat(".", 1<<16)} {
		if found, first, code := types.Find(kind, path); !same(found, api.Type{}) || first != 0 || code != api.ErrName {
			t.Errorf("Find(%.20q) = %+v, %d, %d", path, found, first, code)
		}
	}
	invalid(1243, func(kind api.Type, code api.Code) {
		for _, path := range []string{"", ".0", ".a", "x"} {
			if found, at, got := types.Find(kind, path); !same(found, api.Type{}) || at != 0 || got != code {
				t.Fatalf("Find(%+v, %q) = %+v, %d, %d, want %d", kind, path, found, at, got, code)
			}
		}
	})
}

// near returns a number near the bounds of the scalar, or far away from them.
func (g generator) near(s api.Scalar) int {
	return pick(g, s.Low-1, s.Low, s.Low, s.High, s.High, s.High+1, (s.Low+s.High)/2, 0, math.MinInt, math.MaxInt)
}

func TestP12_5ContainsAndClamp(t *testing.T) {
	counts := map[bool]int{}
	each(1251, 5000, func(g generator, kind api.Type) {
		scalars := scalarsOf(kind)
		for range 8 {
			list, isValue := make([]int, len(scalars)), true
			for i, s := range scalars {
				list[i] = g.near(s)
				if g.Intn(4) > 0 {
					list[i] = s.Low + g.Intn(s.High-s.Low+1)
				}
				isValue = isValue && s.Low <= list[i] && list[i] <= s.High
			}
			counts[isValue]++
			if got := types.Contains(kind, list); got != isValue {
				t.Fatalf("Contains(%+v, %v) = %t", kind, list, got)
			}
			clamped, code := types.Clamp(kind, list)
			if code != api.OK || !types.Contains(kind, clamped) || slices.Equal(clamped, list) != isValue {
				t.Fatalf("Clamp(%+v, %v) = %v, %d", kind, list, clamped, code)
			}
			for i, s := range scalars {
				if !isNearest(s, list[i], clamped[i]) {
					t.Fatalf("Clamp(%+v, %v) = %v", kind, list, clamped)
				}
			}
		}
		for _, length := range []int{0, len(scalars) - 1, len(scalars) + 1, 100} {
			list := make([]int, length)
			if clamped, code := types.Clamp(kind, list); types.Contains(kind, list) || len(clamped) != 0 || code != api.ErrMismatch {
				t.Fatalf("Clamp(%+v, %v) = %v, %d", kind, list, clamped, code)
			}
		}
	})
	if counts[true] < 5000 || counts[false] < 5000 {
		t.Errorf("%v", counts)
	}
}

// isNearest reports whether no value of the scalar is nearer to n than the value is.
func isNearest(s api.Scalar, n, value int) bool {
	distance := func(v int) *big.Int {
		d := new(big.Int).Sub(big.NewInt(int64(v)), big.NewInt(int64(n)))
		return d.Abs(d)
	}
	for _, other := range []int{s.Low, s.High, value - 1, value + 1} {
		if other >= s.Low && other <= s.High && distance(other).Cmp(distance(value)) < 0 {
			return false
		}
	}
	return true
}

func TestP12_5Invalid(t *testing.T) {
	invalid(1252, func(kind api.Type, code api.Code) {
		for _, list := range [][]int{nil, {0}, {1, 1}, make([]int, 32)} {
			if clamped, got := types.Clamp(kind, list); types.Contains(kind, list) || len(clamped) != 0 || got != code {
				t.Fatalf("Clamp(%+v, %v) = %v, %d, want %d", kind, list, clamped, got, code)
			}
		}
	})
}

// TestP12_5Count counts the lists that are values.
func TestP12_5Count(t *testing.T) {
	g := newGenerator(1253)
	for done := 0; done < 300; {
		kind := g.valid(3)
		scalars := scalarsOf(kind)
		small := func(s api.Scalar) bool { return s.Low >= -3 && s.High <= 9 }
		if len(scalars) > 3 || slices.ContainsFunc(scalars, func(s api.Scalar) bool { return !small(s) }) {
			continue
		}
		done++
		count := 0
		var extend func(list []int)
		extend = func(list []int) {
			if len(list) == len(scalars) {
				if types.Contains(kind, list) {
					count++
				}
				return
			}
			for n := -4; n <= 10; n++ {
				extend(append(slices.Clone(list), n))
			}
		}
		extend(nil)
		if n, code := types.Values(kind); n != count || code != api.OK {
			t.Fatalf("Values(%+v) = %d, %d, want %d", kind, n, code, count)
		}
	}
}

func TestExamples(t *testing.T) {
	decls := []api.Decl{declare("bit", api.Type{}), declare("pair", record(named("bit"), api.Type{Kind: api.TypeInt, Low: 1, High: 3}))}
	kind, code := types.Expand(decls, arrays(named("pair"), 2))
	pair := record(api.Type{}, api.Type{Kind: api.TypeInt, Low: 1, High: 3})
	if code != api.OK || !same(kind, arrays(pair, 2)) {
		t.Fatalf("%+v, %d", kind, code)
	}
	scalars, code := types.Scalars(kind)
	want := []api.Scalar{{Path: ".0.a", Bool: true, High: 1}, {Path: ".0.b", Low: 1, High: 3}, {Path: ".1.a", Bool: true, High: 1}, {Path: ".1.b", Low: 1, High: 3}}
	if code != api.OK || !slices.Equal(scalars, want) {
		t.Errorf("%+v, %d", scalars, code)
	}
	if n, code := types.Values(kind); n != 36 || code != api.OK {
		t.Errorf("%d, %d", n, code)
	}
	if found, at, code := types.Find(kind, ".1"); !same(found, pair) || at != 2 || code != api.OK {
		t.Errorf("%+v, %d, %d", found, at, code)
	}
	if clamped, code := types.Clamp(kind, []int{5, 0, -1, 2}); !slices.Equal(clamped, []int{1, 1, 0, 2}) || code != api.OK {
		t.Errorf("%v, %d", clamped, code)
	}
	if list, code := types.Scalars(api.Type{}); code != api.OK || !slices.Equal(list, []api.Scalar{{Bool: true, High: 1}}) {
		t.Errorf("%+v, %d", list, code)
	}
}
