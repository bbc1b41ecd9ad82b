package types_test

import (
	"slices"
	"testing"

	"keyhole/api"
	"keyhole/types"
)

// expectExpand fails unless Expand returns what the model returns.
func expectExpand(t *testing.T, decls []api.Decl, kind api.Type) (api.Type, api.Code) {
	t.Helper()
	got, code := types.Expand(decls, kind)
	want, wantCode := expand(decls, kind)
	if !same(got, want) || code != wantCode {
		t.Fatalf("Expand(%+v, %+v) = %+v, %d, want %+v, %d", decls, kind, got, code, want, wantCode)
	}
	return got, code
}

// decls returns declarations of types and others, mostly in order.
func (g generator) decls() []api.Decl {
	var list []api.Decl
	var names []string
	for _, name := range []string{"t", "u", "v", "w"}[:g.Intn(5)] {
		if g.Intn(20) == 0 {
			name = pick(g, "t", "u", "", "if", "T")
		}
		if g.Intn(4) == 0 {
			list = append(list, api.Decl{Kind: api.DeclKind(pick(g, -1, 1, 2, 3, 4, 5, 6, 7)), Name: pick(g, "t", "u", "x", ""), Type: g.kind(2, "t", "y")})
		}
		kind := g.kind(1+g.Intn(3), names...)
		if g.Intn(20) == 0 {
			g.mutate(&kind)
		}
		names = append(names, name)
		list = append(list, api.Decl{Name: name, Type: kind, Init: g.Intn(3)})
	}
	return list
}

func TestP12_2Expand(t *testing.T) {
	g := newGenerator(122)
	codes := map[api.Code]int{}
	for range 60000 {
		decls := g.decls()
		names := []string{"t", "u", "v", "w"}[:min(len(decls), 4)]
		if g.Intn(20) == 0 {
			names = append(slices.Clone(names), "x")
		}
		kind := g.kind(1+g.Intn(3), names...)
		if g.Intn(20) == 0 {
			g.mutate(&kind)
		}
		result, code := expectExpand(t, decls, kind)
		codes[code]++
		if code != api.OK {
			continue
		}
		if types.Check(result) != api.OK {
			t.Fatalf("Expand(%+v, %+v) = %+v is not valid", decls, kind, result)
		}
		if again, code := types.Expand(decls, result); code != api.OK || !types.Equal(again, result) {
			t.Fatalf("%+v expands to %+v, %d", result, again, code)
		}
	}
	for _, code := range []api.Code{api.OK, api.ErrArgument, api.ErrName, api.ErrRange, api.ErrDuplicate, api.ErrLimit} {
		if codes[code] < 200 {
			t.Errorf("only %d expansions with the code %d", codes[code], code)
		}
	}
}

func TestP12_2ToItself(t *testing.T) {
	g := newGenerator(1222)
	for range 10000 {
		decls, kind := g.decls(), g.valid(1+g.Intn(4))
		_, inOrder := types.Expand(decls, api.Type{})
		got, code := types.Expand(decls, kind)
		if inOrder != code || code == api.OK && !types.Equal(got, kind) {
			t.Fatalf("Expand(%+v, %+v) = %+v, %d", decls, kind, got, code)
		}
	}
}

func named(name string) api.Type { return api.Type{Kind: api.TypeName, Name: name} }

func declare(name string, t api.Type) api.Decl { return api.Decl{Name: name, Type: t} }

func TestP12_2Errors(t *testing.T) {
	truth := api.Type{}
	twins := api.Type{Kind: api.TypeRecord, Names: []string{"a", "a"}, Of: make([]api.Type, 2)}
	deep := arrays(truth, 1, 1, 1, 1, 1, 1, 1, 1, 1, 1, 1)
	for i, c := range []struct {
		decls []api.Decl
		kind  api.Type
		code  api.Code
	}{
		{nil, truth, api.OK}, {nil, named("t"), api.ErrName}, {nil, twins, api.ErrDuplicate}, {nil, arrays(truth, 11, 3), api.ErrLimit}, {nil, api.Type{Kind: 9}, api.ErrArgument},
		{[]api.Decl{declare("t", truth), declare("t", truth)}, truth, api.ErrDuplicate}, {[]api.Decl{declare("t", truth), declare("t", named("t"))}, truth, api.ErrDuplicate},
		{[]api.Decl{declare("t", named("t"))}, truth, api.ErrName}, {[]api.Decl{declare("t", named("u")), declare("u", truth)}, truth, api.ErrName},
		{[]api.Decl{declare("u", truth), declare("t", named("u"))}, named("t"), api.OK}, {[]api.Decl{declare("if", truth)}, truth, api.ErrName},
		{[]api.Decl{declare("abcdefghijklm", truth)}, truth, api.ErrName}, {[]api.Decl{declare("", api.Type{Kind: 9})}, truth, api.ErrName}, {[]api.Decl{declare("t", api.Type{Kind: 9})}, truth, api.ErrArgument},
		{[]api.Decl{declare("t", twins), declare("t", truth)}, truth, api.ErrDuplicate}, {[]api.Decl{declare("t", arrays(truth, 33)), declare("", truth)}, truth, api.ErrRange},
		{[]api.Decl{declare("t", twins)}, named("u"), api.ErrDuplicate}, {[]api.Decl{declare("t", arrays(truth, 32, 32))}, named("u"), api.ErrLimit},
		{[]api.Decl{{Kind: api.SecretDecl, Name: "t", Type: truth}}, named("t"), api.ErrName}, {[]api.Decl{{Kind: api.VarDecl, Name: "", Type: api.Type{Kind: 9}}}, truth, api.OK},
		{[]api.Decl{{Kind: -1, Name: "t"}, {Kind: 7, Name: "t"}, declare("t", truth), {Kind: api.FuncDecl, Name: "t"}}, named("t"), api.OK},
		{[]api.Decl{declare("t", deep)}, named("t"), api.OK}, {[]api.Decl{declare("t", deep)}, arrays(named("t"), 1), api.ErrLimit}, {[]api.Decl{declare("t", deep)}, record(twins, arrays(named("t"), 1)), api.ErrDuplicate},
		{[]api.Decl{declare("t", deep), declare("u", arrays(named("t"), 1))}, truth, api.ErrLimit}, {[]api.Decl{declare("t", arrays(truth, 16))}, arrays(named("t"), 2), api.OK},
		{[]api.Decl{declare("t", arrays(truth, 16))}, arrays(named("t"), 3), api.ErrLimit}, {[]api.Decl{declare("t", arrays(truth, 32))}, record(named("t"), truth), api.ErrLimit},
		{[]api.Decl{declare("t", truth)}, record(named("t"), record(named("t"), named("u"))), api.ErrName}, {[]api.Decl{declare("t", truth)}, record(twins, named("u")), api.ErrName},
		{[]api.Decl{declare("a", truth), declare("b", record(named("a"), named("a")))}, record(named("b"), named("b")), api.OK},
		{[]api.Decl{{Name: "t", Init: 7, Value: api.Expr{Op: 99}, Params: make([]api.Decl, 3), Body: make([]api.Stmt, 2)}}, named("t"), api.OK},
	} {
		if _, code := expectExpand(t, c.decls, c.kind); code != c.code {
			t.Errorf("%d: %d, want %d", i, code, c.code)
		}
	}
}

// TestP12_2Large expands types that become much larger than the limits.
func TestP12_2Large(t *testing.T) {
	most := arrays(api.Type{}, 32, 1, 1, 1, 1, 1, 1, 1, 1, 1, 1)
	rows := record(repeated(record(repeated(named("t"), 30)...), 32)...)
	for _, kind := range []api.Type{rows, arrays(named("t"), 32, 32, 32, 32, 32, 32, 32, 32, 32, 32, 32)} {
		if _, code := types.Expand([]api.Decl{declare("t", most)}, kind); code != api.ErrLimit {
			t.Errorf("%d", code)
		}
	}
	if result, code := expectExpand(t, []api.Decl{declare("t", most)}, named("t")); code != api.OK || !types.Equal(result, most) {
		t.Errorf("%+v, %d", result, code)
	}
}

// TestMemory changes arguments and results, which nothing else must show.
func TestMemory(t *testing.T) {
	decls := []api.Decl{declare("t", record(api.Type{}, arrays(api.Type{}, 2)))}
	kind := record(named("t"), named("t"), record(api.Type{}))
	first, code := types.Expand(decls, kind)
	want, _ := expand(decls, kind)
	if code != api.OK || !same(first, want) {
		t.Fatalf("%+v, %d", first, code)
	}
	first.Of[0].Names[0], first.Of[0].Of[0].Low, first.Of[0].Of[1].Of[0].Low, first.Of[2].Names[0] = "x", 1, 1, "x"
	if !same(first.Of[1], want.Of[1]) {
		t.Errorf("two components share memory: %+v", first)
	}
	if second, _ := types.Expand(decls, kind); !same(second, want) {
		t.Errorf("the arguments are changed: %+v", second)
	}
	whole, _, _ := types.Find(want, "")
	whole.Of[0].Names[0], whole.Of[0].Of[1].Of[0].Low = "x", 1
	within, _, _ := types.Find(want, ".b")
	within.Names[0], within.Of[1].Of[0].Low = "x", 1
	if again, _ := expand(decls, kind); !same(want, again) {
		t.Errorf("a component shares memory with its type: %+v", want)
	}
	list := []int{5, -1, 1, 0, 0, 0, 7}
	clamped, code := types.Clamp(want, list)
	if code != api.OK || &clamped[0] == &list[0] || !slices.Equal(list, []int{5, -1, 1, 0, 0, 0, 7}) {
		t.Errorf("%v, %v, %d", clamped, list, code)
	}
}
