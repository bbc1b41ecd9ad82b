package syntax_test

import (
	"slices"
	"testing"

	"keyhole/api"
	"keyhole/syntax"
)

// expectCheck fails unless Check returns what the definition says, and returns it.
func expectCheck(t *testing.T, p api.Program) api.Code {
	t.Helper()
	want := check(p)
	if got := syntax.Check(p); got != want {
		t.Fatalf("Check(%+v) = %d, want %d", p, got, want)
	}
	return want
}

func TestP10_1Programs(t *testing.T) {
	g := newGenerator(101)
	codes := map[api.Code]int{}
	for range 4000 {
		p := g.program()
		if code := expectCheck(t, p); code != api.OK {
			t.Fatalf("the program %+v is not well formed: %d", p, code)
		}
		for range 6 {
			changed := clone(p, g.Intn(2) == 0)
			for range 1 + g.Intn(3) {
				g.mutate(&changed)
			}
			codes[expectCheck(t, changed)]++
		}
	}
	for _, code := range []api.Code{api.OK, api.ErrArgument, api.ErrName, api.ErrRange} {
		if codes[code] < 150 {
			t.Errorf("only %d programs with the code %d", codes[code], code)
		}
	}
}

func TestP10_1ExpressionsAndTypes(t *testing.T) {
	g := newGenerator(102)
	for range 20000 {
		e, kind := g.expr(5), g.kind(4)
		for k := range 3 {
			if got, want := syntax.CheckExpr(e), checkExpr(e); got != want || k == 0 && got != api.OK {
				t.Fatalf("CheckExpr(%+v) = %d, want %d", e, got, want)
			}
			if got, want := syntax.CheckType(kind), checkType(kind); got != want || k == 0 && got != api.OK {
				t.Fatalf("CheckType(%+v) = %d, want %d", kind, got, want)
			}
			e, kind = clone(e, k == 1), clone(kind, k == 1)
			g.mutate(&e)
			g.mutate(&kind)
		}
	}
}

// TestP10_1Operators gives every operator every number of kids.
func TestP10_1Operators(t *testing.T) {
	leaves := []api.Expr{{Op: api.OpName, Name: "a"}, {N: 1}, {Op: api.OpTrue}, {Op: api.OpField, Name: "f", Kids: []api.Expr{{Op: api.OpName, Name: "a"}}}}
	for op := api.Op(-2); op <= 27; op++ {
		for _, n := range []int{0, 1, -1, 1 << 20, 1<<20 + 1} {
			for _, name := range []string{"", "a", "if", "A"} {
				for count := range 5 {
					for _, leaf := range leaves {
						e := api.Expr{Op: op, N: n, Name: name, Kids: slices.Repeat([]api.Expr{leaf}, count)}
						if got, want := syntax.CheckExpr(e), checkExpr(e); got != want {
							t.Fatalf("CheckExpr(%+v) = %d, want %d", e, got, want)
						}
					}
				}
			}
		}
	}
}

// TestP10_1Fields sets each field of each kind of statement, declaration and type alone.
func TestP10_1Fields(t *testing.T) {
	place, value := api.Expr{Op: api.OpName, Name: "a"}, api.Expr{N: 1}
	wait := []api.Stmt{{Verb: api.WaitStmt}}
	for verb := api.Verb(-1); verb <= 10; verb++ {
		for set := range 1 << 10 {
			has := func(bit int) bool { return set>>bit&1 == 1 }
			s := api.Stmt{Verb: verb}
			if has(0) {
				s.Place = place
			}
			if has(1) {
				s.Value = value
			}
			if has(2) {
				s.Name = "n"
			}
			if has(3) {
				s.Args = []api.Expr{value}
			}
			if has(4) {
				s.N = 3
			}
			if has(5) {
				s.Low = -3
			}
			if has(6) {
				s.High = 3
			}
			if has(7) {
				s.Numbers = []int{3}
			}
			if has(8) {
				s.Then = wait
			}
			if has(9) {
				s.Else = wait
			}
			expectCheck(t, api.Program{Body: []api.Stmt{s}})
		}
	}
	for kind := api.DeclKind(-1); kind <= 8; kind++ {
		for set := range 1 << 7 {
			has := func(bit int) bool { return set>>bit&1 == 1 }
			d := api.Decl{Kind: kind}
			if has(0) {
				d.Name = "n"
			}
			if has(1) {
				d.Type = api.Type{Kind: api.TypeInt, High: 1}
			}
			if has(2) {
				d.Init = 3
			}
			if has(3) {
				d.Value = value
			}
			if has(4) {
				d.Params = []api.Decl{{Kind: api.VarDecl, Name: "p"}}
			}
			if has(5) {
				d.Vars = []api.Decl{{Kind: api.VarDecl, Name: "v", Init: 1}}
			}
			if has(6) {
				d.Body = wait
			}
			expectCheck(t, api.Program{Decls: []api.Decl{d}})
		}
	}
	for kind := api.TypeKind(-1); kind <= 6; kind++ {
		for set := range 1 << 6 {
			has := func(bit int) bool { return set>>bit&1 == 1 }
			k := api.Type{Kind: kind}
			if has(0) {
				k.Low = -1
			}
			if has(1) {
				k.High = 1
			}
			if has(2) {
				k.Size = 1
			}
			if has(3) {
				k.Name = "n"
			}
			if has(4) {
				k.Names = []string{"n"}
			}
			if has(5) {
				k.Of = []api.Type{{}}
			}
			if got, want := syntax.CheckType(k), checkType(k); got != want {
				t.Fatalf("CheckType(%+v) = %d, want %d", k, got, want)
			}
		}
	}
}

// chain returns an expression of the given depth with the given operator and as many kids as it needs.
func chain(op api.Op, kids, depth int) api.Expr {
	e := api.Expr{Op: api.OpName, Name: "a"}
	for range depth - 1 {
		e = api.Expr{Op: op, Kids: append([]api.Expr{e}, slices.Repeat([]api.Expr{{N: 1}}, kids-1)...)}
	}
	return e
}

func arrays(depth int) api.Type {
	t := api.Type{}
	for range depth - 1 {
		t = api.Type{Kind: api.TypeArray, Size: 1, Of: []api.Type{t}}
	}
	return t
}

func nested(depth int, wrap func(within []api.Stmt) api.Stmt) []api.Stmt {
	list := []api.Stmt{{Verb: api.WaitStmt}}
	for range depth - 1 {
		list = []api.Stmt{wrap(list)}
	}
	return list
}

func TestP10_1Depth(t *testing.T) {
	truth := api.Expr{Op: api.OpTrue}
	for depth := 10; depth <= 15; depth++ {
		want := api.OK
		if depth > 12 {
			want = api.ErrLimit
		}
		for _, e := range []api.Expr{chain(api.OpNeg, 1, depth), chain(api.OpAdd, 2, depth), chain(api.OpCond, 3, depth), chain(api.OpIndex, 2, depth)} {
			if got := syntax.CheckExpr(e); got != want {
				t.Errorf("an expression of the depth %d: %d", depth, got)
			}
		}
		if got := syntax.CheckType(arrays(depth)); got != want {
			t.Errorf("a type of the depth %d: %d", depth, got)
		}
		for _, wrap := range []func(within []api.Stmt) api.Stmt{
			func(within []api.Stmt) api.Stmt { return api.Stmt{Verb: api.IfStmt, Value: truth, Then: within} },
			func(within []api.Stmt) api.Stmt { return api.Stmt{Verb: api.IfStmt, Value: truth, Else: within} },
			func(within []api.Stmt) api.Stmt { return api.Stmt{Verb: api.WhileStmt, Value: truth, Then: within} },
			func(within []api.Stmt) api.Stmt { return api.Stmt{Verb: api.ForStmt, Name: "i", Then: within} },
		} {
			body := nested(depth, wrap)
			for _, p := range []api.Program{{Body: body}, {Decls: []api.Decl{{Kind: api.FuncDecl, Name: "f", Body: body}}}} {
				if got := expectCheck(t, p); got != want {
					t.Errorf("statements nested %d: %d", depth, got)
				}
			}
		}
	}
}

// TestP10_1DepthAnywhere puts what is too deep at every place, used or not.
func TestP10_1DepthAnywhere(t *testing.T) {
	for depth := 12; depth <= 13; depth++ {
		e, kind := chain(api.OpNeg, 1, depth), arrays(depth)
		body := nested(depth, func(within []api.Stmt) api.Stmt { return api.Stmt{Verb: api.OutputStmt, Else: within} })
		for verb := api.Verb(-1); verb <= 9; verb++ {
			for _, s := range []api.Stmt{{Place: e}, {Value: e}, {Args: []api.Expr{{}, e}}, {Then: body[0].Else}, {Else: body[0].Else}} {
				s.Verb = verb
				if got := expectCheck(t, api.Program{Body: []api.Stmt{s}}); (got == api.ErrLimit) != (depth == 13) {
					t.Fatalf("%+v: %d", s, got)
				}
			}
		}
		for kindOf := api.DeclKind(-1); kindOf <= 7; kindOf++ {
			deep := api.Decl{Kind: api.VarDecl, Name: "d", Type: kind}
			for _, d := range []api.Decl{{Type: kind}, {Value: e}, {Params: []api.Decl{deep}}, {Vars: []api.Decl{deep}}, {Body: body},
				{Params: []api.Decl{{Params: []api.Decl{deep}}}}, {Vars: []api.Decl{{Value: e}}}, {Vars: []api.Decl{{Body: body}}}} {
				d.Kind = kindOf
				if got := expectCheck(t, api.Program{Decls: []api.Decl{d}}); (got == api.ErrLimit) != (depth == 13) {
					t.Fatalf("%+v: %d", d, got)
				}
			}
		}
	}
	for _, e := range []api.Expr{{Op: api.OpLit, Kids: []api.Expr{chain(api.OpNeg, 1, 12)}}, {Op: 99, Kids: []api.Expr{chain(api.OpNeg, 1, 12)}}} {
		if got := syntax.CheckExpr(e); got != api.ErrLimit {
			t.Errorf("CheckExpr = %d", got)
		}
	}
	if got := syntax.CheckType(api.Type{Kind: 9, Of: []api.Type{{}, arrays(12)}}); got != api.ErrLimit {
		t.Errorf("CheckType = %d", got)
	}
}

func TestP10_1Nodes(t *testing.T) {
	literal := api.Expr{N: 1}
	// Each entry makes a program whose nodes grow with n by the given number each.
	for i, c := range []struct {
		each    int
		program func(n int) api.Program
	}{
		{1, func(n int) api.Program { return api.Program{Body: slices.Repeat([]api.Stmt{{Verb: api.WaitStmt}}, n)} }},
		{1, func(n int) api.Program { return api.Program{Body: slices.Repeat([]api.Stmt{{Verb: 77}}, n)} }},
		{1, func(n int) api.Program { return api.Program{Decls: slices.Repeat([]api.Decl{{Kind: 77}}, n)} }},
		{2, func(n int) api.Program { return api.Program{Decls: slices.Repeat([]api.Decl{{Name: "a"}}, n)} }},
		{3, func(n int) api.Program {
			return api.Program{Decls: slices.Repeat([]api.Decl{{Kind: api.FuncDecl, Name: "a"}}, n)}
		}},
		{3, func(n int) api.Program {
			return api.Program{Decls: slices.Repeat([]api.Decl{{Kind: api.HatchDecl, Name: "a"}}, n)}
		}},
		{2, func(n int) api.Program {
			return api.Program{Body: slices.Repeat([]api.Stmt{{Verb: api.OutputStmt}}, n)}
		}},
		{3, func(n int) api.Program { return api.Program{Body: slices.Repeat([]api.Stmt{{}}, n)} }},
		{2, func(n int) api.Program {
			return api.Program{Body: slices.Repeat([]api.Stmt{{Verb: api.WaitStmt, Value: literal}}, n)}
		}},
		{2, func(n int) api.Program {
			return api.Program{Body: slices.Repeat([]api.Stmt{{Verb: api.WaitStmt, Place: literal}}, n)}
		}},
		{3, func(n int) api.Program {
			return api.Program{Body: slices.Repeat([]api.Stmt{{Verb: api.WaitStmt, Value: api.Expr{Kids: make([]api.Expr, 1)}}}, n)}
		}},
		{2, func(n int) api.Program {
			return api.Program{Body: slices.Repeat([]api.Stmt{{Verb: api.WaitStmt, Value: api.Expr{Op: api.OpTrue}}}, n)}
		}},
		{2, func(n int) api.Program {
			return api.Program{Body: slices.Repeat([]api.Stmt{{Verb: api.WaitStmt, Place: api.Expr{Name: "a"}}}, n)}
		}},
		{2, func(n int) api.Program {
			return api.Program{Decls: slices.Repeat([]api.Decl{{Kind: 77, Type: api.Type{Kind: api.TypeInt}}}, n)}
		}},
		{2, func(n int) api.Program {
			return api.Program{Decls: slices.Repeat([]api.Decl{{Kind: 77, Type: api.Type{Size: 1}}}, n)}
		}},
		{2, func(n int) api.Program {
			return api.Program{Decls: slices.Repeat([]api.Decl{{Kind: 77, Value: api.Expr{Op: api.OpName}}}, n)}
		}},
		{1, func(n int) api.Program {
			return api.Program{Body: []api.Stmt{{Verb: api.WaitStmt, Args: make([]api.Expr, n-1)}}}
		}},
		{1, func(n int) api.Program {
			return api.Program{Body: []api.Stmt{{Verb: api.SettleStmt, Then: slices.Repeat([]api.Stmt{{Verb: api.WaitStmt}}, n-1)}}}
		}},
		{1, func(n int) api.Program {
			return api.Program{Body: []api.Stmt{{Verb: api.OutputStmt, Value: api.Expr{Kids: make([]api.Expr, n-2)}}}}
		}},
		{1, func(n int) api.Program {
			return api.Program{Decls: []api.Decl{{Name: "a", Type: api.Type{Of: make([]api.Type, n-2)}}}}
		}},
		{2, func(n int) api.Program {
			return api.Program{Decls: []api.Decl{{Name: "a", Params: make([]api.Decl, n-1)}}}
		}},
		{2, func(n int) api.Program {
			return api.Program{Decls: []api.Decl{{Name: "a", Vars: make([]api.Decl, n-1)}}}
		}},
		{1, func(n int) api.Program {
			d := api.Decl{Kind: 9}
			for range n - 1 {
				d = api.Decl{Kind: 9, Params: []api.Decl{d}}
			}
			return api.Program{Decls: []api.Decl{d}}
		}},
	} {
		for n := 1020/c.each - 1; n*c.each <= 1032; n++ {
			expectCheck(t, c.program(n))
		}
		if got := check(c.program(1024 / c.each)); got == api.ErrLimit {
			t.Errorf("%d: 1024 nodes are too many", i)
		}
		if got := expectCheck(t, c.program(1025/c.each+1)); got != api.ErrLimit {
			t.Errorf("%d: %d", i, got)
		}
	}
	for n := 1000; n < 1050; n++ {
		e := api.Expr{Op: 50, Kids: make([]api.Expr, n)}
		if got, want := syntax.CheckExpr(e), checkExpr(e); got != want {
			t.Errorf("%d kids: %d, want %d", n, got, want)
		}
		kind := api.Type{Kind: api.TypeRecord, Of: make([]api.Type, n)}
		if got, want := syntax.CheckType(kind), checkType(kind); got != want {
			t.Errorf("%d components: %d, want %d", n, got, want)
		}
	}
}

func TestP10_1Ranges(t *testing.T) {
	numbers := []int{-1 << 63, -1<<20 - 1, -1 << 20, -4097, -4096, -1, 0, 1, 2, 31, 32, 33, 4095, 4096, 4097, 1<<20 - 1, 1 << 20, 1<<20 + 1, 1<<63 - 1}
	body := func(s api.Stmt) api.Program { return api.Program{Body: []api.Stmt{s}} }
	decl := func(d api.Decl) api.Program { return api.Program{Decls: []api.Decl{d}} }
	for _, a := range numbers {
		expectCheck(t, body(api.Stmt{Verb: api.WaitStmt, N: a}))
		expectCheck(t, body(api.Stmt{Verb: api.WhileStmt, N: a}))
		expectCheck(t, body(api.Stmt{Verb: api.OutputStmt, Value: api.Expr{N: a}}))
		expectCheck(t, decl(api.Decl{Kind: api.SecretDecl, Name: "a", Type: api.Type{Kind: api.TypeArray, Size: a, Of: make([]api.Type, 1)}}))
		for kind := api.TypeKind(0); kind <= api.TypeName; kind++ {
			expectCheck(t, decl(api.Decl{Kind: api.VarDecl, Name: "a", Type: api.Type{Kind: kind}, Init: a}))
		}
		expectCheck(t, decl(api.Decl{Kind: api.VarDecl, Name: "a", Init: a}))
		expectCheck(t, decl(api.Decl{Kind: api.VarDecl, Name: "a", Type: api.Type{Kind: api.TypeName, Name: "b"}, Init: a}))
		expectCheck(t, decl(api.Decl{Kind: api.VarDecl, Name: "a", Type: arrays(2), Init: a}))
		for _, b := range numbers {
			for _, distance := range []int{-1, 0, 1, 4094, 4095, 4096, 4097} {
				for _, high := range []int{b, a + distance} {
					expectCheck(t, body(api.Stmt{Verb: api.ForStmt, Name: "i", Low: a, High: high}))
					expectCheck(t, decl(api.Decl{Name: "a", Type: api.Type{Kind: api.TypeInt, Low: a, High: high}}))
				}
			}
			expectCheck(t, body(api.Stmt{Verb: api.SettleStmt, Numbers: []int{a, b}}))
			expectCheck(t, body(api.Stmt{Verb: api.SettleStmt, Numbers: []int{0, a, b}}))
		}
	}
	for n := range 40 {
		settle, record := api.Stmt{Verb: api.SettleStmt}, api.Type{Kind: api.TypeRecord, Of: make([]api.Type, n)}
		for i := range n {
			settle.Numbers = append(settle.Numbers, i)
			record.Names = append(record.Names, "a")
		}
		expectCheck(t, body(settle))
		expectCheck(t, decl(api.Decl{Name: "a", Type: record}))
	}
}

func TestP10_1Order(t *testing.T) {
	deep, wrong, misnamed, far := chain(api.OpNeg, 1, 13), api.Expr{Op: api.OpTrue, N: 1}, api.Expr{Op: api.OpName, Name: "if"}, api.Expr{N: -1}
	list := []api.Expr{far, misnamed, wrong, deep}
	for i, code := range []api.Code{api.ErrRange, api.ErrName, api.ErrArgument, api.ErrLimit} {
		for j := range i + 1 {
			for _, pair := range [][2]api.Expr{{list[i], list[j]}, {list[j], list[i]}} {
				p := api.Program{Body: []api.Stmt{{Verb: api.OutputStmt, Value: pair[0]}, {Verb: api.OutputStmt, Value: pair[1]}}}
				if got := expectCheck(t, p); got != code {
					t.Errorf("%d and %d: %d", i, j, got)
				}
				e := api.Expr{Op: api.OpAdd, Kids: []api.Expr{pair[0], pair[1]}}
				if got := syntax.CheckExpr(e); got != code {
					t.Errorf("%d and %d in one expression: %d", i, j, got)
				}
			}
		}
	}
	kinds := []api.Type{{Kind: api.TypeArray, Of: make([]api.Type, 1)}, {Kind: api.TypeName}, {Kind: 7}, arrays(13)}
	for i, code := range []api.Code{api.ErrRange, api.ErrName, api.ErrArgument, api.ErrLimit} {
		for j := range i + 1 {
			record := api.Type{Kind: api.TypeRecord, Names: []string{"a", "b"}, Of: []api.Type{kinds[i], kinds[j]}}
			if got := syntax.CheckType(record); got != code {
				t.Errorf("the types %d and %d: %d", i, j, got)
			}
		}
	}
}

func TestP10_1Names(t *testing.T) {
	for _, name := range []string{"", "a", "A", "a1", "1a", "if", "types", "min", "abcdefghijkl", "abcdefghijklm", "a_", "a b", "é"} {
		if syntax.IsName(name) != isName(name) {
			t.Errorf("IsName(%q) = %t", name, syntax.IsName(name))
		}
		kind := api.Type{Kind: api.TypeRecord, Names: []string{"ok", name}, Of: make([]api.Type, 2)}
		place := api.Expr{Op: api.OpName, Name: "a"}
		for _, p := range []api.Program{
			{Decls: []api.Decl{{Name: name}}}, {Decls: []api.Decl{{Name: "a", Type: kind}}},
			{Decls: []api.Decl{{Name: "a", Type: api.Type{Kind: api.TypeName, Name: name}}}},
			{Decls: []api.Decl{{Kind: api.FuncDecl, Name: "a", Params: []api.Decl{{Kind: api.VarDecl, Name: name}}}}},
			{Decls: []api.Decl{{Kind: api.FuncDecl, Name: "a", Vars: []api.Decl{{Kind: api.VarDecl, Name: name}}}}},
			{Body: []api.Stmt{{Place: api.Expr{Op: api.OpName, Name: name}}}},
			{Body: []api.Stmt{{Place: api.Expr{Op: api.OpField, Name: name, Kids: []api.Expr{place}}}}},
			{Body: []api.Stmt{{Verb: api.CallStmt, Place: place, Name: name}}},
			{Body: []api.Stmt{{Verb: api.ReleaseStmt, Place: place, Name: name}}},
			{Body: []api.Stmt{{Verb: api.ForStmt, Name: name}}},
		} {
			if got := expectCheck(t, p); (got == api.OK) != isName(name) {
				t.Errorf("%q: %d", name, got)
			}
		}
	}
}

func TestP10_1Functions(t *testing.T) {
	for kind := api.DeclKind(-1); kind <= 7; kind++ {
		for _, init := range []int{0, 1, -1} {
			d := api.Decl{Kind: kind, Name: "a", Init: init, Type: api.Type{Kind: api.TypeInt}}
			expectCheck(t, api.Program{Decls: []api.Decl{{Kind: api.FuncDecl, Name: "f", Params: []api.Decl{d}}}})
			expectCheck(t, api.Program{Decls: []api.Decl{{Kind: api.FuncDecl, Name: "f", Vars: []api.Decl{d}}}})
		}
	}
}
