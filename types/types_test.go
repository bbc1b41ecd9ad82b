package types_test

import (
	"strings"
	"testing"

	"keyhole/api"
	"keyhole/types"
)

func expectCheck(t *testing.T, kind api.Type) api.Code {
	t.Helper()
	want := check(kind)
	if got := types.Check(kind); got != want {
		t.Fatalf("Check(%+v) = %d, want %d", kind, got, want)
	}
	return want
}

func TestP12_1Check(t *testing.T) {
	g := newGenerator(121)
	codes := map[api.Code]int{}
	for range 30000 {
		kind := g.kind(1+g.Intn(4), pick(g, nil, nil, []string{"a", "n"})...)
		codes[expectCheck(t, kind)]++
		kind = clone(kind, g.Intn(2) == 0)
		for range 1 + g.Intn(2) {
			g.mutate(&kind)
			codes[expectCheck(t, kind)]++
		}
	}
	for _, code := range []api.Code{api.OK, api.ErrArgument, api.ErrName, api.ErrRange, api.ErrDuplicate, api.ErrLimit} {
		if codes[code] < 500 {
			t.Errorf("only %d types with the code %d", codes[code], code)
		}
	}
}

// arrays returns arrays of arrays of the sizes.
func arrays(of api.Type, sizes ...int) api.Type {
	for _, size := range sizes {
		of = api.Type{Kind: api.TypeArray, Size: size, Of: []api.Type{of}}
	}
	return of
}

// record returns a record with components of the types, named a, b and so on.
func record(list ...api.Type) api.Type {
	r := api.Type{Kind: api.TypeRecord}
	for i, of := range list {
		r.Names = append(r.Names, name(i))
		r.Of = append(r.Of, of)
	}
	return r
}

func name(i int) string {
	return strings.Repeat("z", i/26) + string(rune('a'+i%26))
}

func repeated(t api.Type, n int) []api.Type {
	list := make([]api.Type, n)
	for i := range list {
		list[i] = t
	}
	return list
}

func TestP12_1Limits(t *testing.T) {
	truth := api.Type{}
	for n := 1; n <= 34; n++ {
		for m := 1; m <= 34; m++ {
			expectCheck(t, arrays(truth, n, m))
			expectCheck(t, record(arrays(truth, n), arrays(truth, m)))
			expectCheck(t, arrays(record(truth, arrays(truth, n)), m))
		}
		expectCheck(t, record(repeated(truth, n)...))
		expectCheck(t, record(repeated(arrays(truth, 2), n)...))
	}
	for depth := 1; depth <= 14; depth++ {
		ones, most := []int{}, []int{}
		for range depth - 1 {
			ones, most = append(ones, 1), append(most, 32)
		}
		expectCheck(t, arrays(truth, ones...))
		expectCheck(t, arrays(truth, most...))
		expectCheck(t, record(truth, arrays(truth, most...)))
		expectCheck(t, record(repeated(arrays(truth, most...), 32)...))
	}
	for _, c := range []struct {
		kind api.Type
		code api.Code
	}{
		{arrays(truth, 32), api.OK}, {arrays(truth, 4, 8), api.OK}, {arrays(truth, 3, 11), api.ErrLimit}, {record(arrays(truth, 31), truth), api.OK},
		{record(arrays(truth, 31), truth, truth), api.ErrLimit}, {arrays(truth, 32, 32, 32, 32, 32, 32, 32, 32, 32, 32, 32), api.ErrLimit},
		{arrays(truth, 1, 1, 1, 1, 1, 1, 1, 1, 1, 1, 1), api.OK}, {arrays(truth, 1, 1, 1, 1, 1, 1, 1, 1, 1, 1, 1, 1), api.ErrLimit},
		{record(repeated(arrays(truth, 32, 32, 32, 32, 32, 32, 32, 32, 32, 32), 32)...), api.ErrLimit}, {record(repeated(truth, 33)...), api.ErrRange},
	} {
		if got := types.Check(c.kind); got != c.code {
			t.Errorf("Check(%+v) = %d, want %d", c.kind, got, c.code)
		}
	}
}

// TestP12_1Order puts types with different errors into one record, in both orders.
func TestP12_1Order(t *testing.T) {
	twins := api.Type{Kind: api.TypeRecord, Names: []string{"a", "a"}, Of: make([]api.Type, 2)}
	list := []api.Type{{}, arrays(api.Type{}, 33, 1), arrays(api.Type{}, 11, 3), twins, {Kind: api.TypeName, Name: "n"}, {Kind: api.TypeName, Name: "N"}, {Kind: 9}, {Low: 1}}
	for _, a := range list {
		for _, b := range list {
			for _, c := range list {
				expectCheck(t, record(a, b, c))
				expectCheck(t, record(a, record(arrays(b, 2), c)))
			}
		}
	}
	// A name of a component may occur in another record again.
	if got := types.Check(record(record(api.Type{}), api.Type{}, record(api.Type{}, api.Type{}))); got != api.OK {
		t.Errorf("records within a record: %d", got)
	}
}

func TestP12_1Equal(t *testing.T) {
	g := newGenerator(1212)
	equal := 0
	expect := func(a, b api.Type) {
		t.Helper()
		if want := same(a, b); types.Equal(a, b) != want || types.Equal(b, a) != want {
			t.Fatalf("Equal(%+v, %+v) is not %t", a, b, want)
		} else if want {
			equal++
		}
	}
	for range 20000 {
		a := g.kind(1+g.Intn(4), "a", "n")
		b := clone(a, g.Intn(2) == 0)
		expect(a, b)
		g.mutate(&b)
		expect(a, b)
		c := clone(b, g.Intn(2) == 0)
		expect(b, c)
		g.mutate(&c)
		expect(b, c)
		expect(a, g.kind(2, "a"))
	}
	if equal < 40000 || equal > 70000 {
		t.Errorf("%d pairs are equal", equal)
	}
	full := api.Type{Kind: 1, Low: 2, High: 3, Size: 4, Name: "a", Names: []string{"b"}, Of: []api.Type{{}}}
	for i := range fieldsOf(valueOf(&full)) {
		other := clone(full, false)
		g.change(fieldsOf(valueOf(&other))[i])
		expect(full, other)
	}
}
