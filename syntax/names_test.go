package syntax_test

import (
	"reflect"
	"slices"
	"testing"

	"keyhole/api"
	"keyhole/syntax"
)

func TestP10_4Equal(t *testing.T) {
	g := newGenerator(108)
	different := 0
	for range 3000 {
		p := g.program()
		if g.Intn(2) == 0 {
			g.mutate(&p)
		}
		q := clone(p, g.Intn(2) == 0)
		if !syntax.Equal(p, q) {
			t.Fatalf("%+v is not equal to its copy", p)
		}
		for range 3 {
			g.mutate(&q)
			want := same(p, q)
			if syntax.Equal(p, q) != want || syntax.Equal(q, p) != want {
				t.Fatalf("Equal(%+v, %+v) is not %t", p, q, want)
			}
			if !want {
				different++
			}
		}
	}
	if different < 3000 {
		t.Errorf("only %d different programs", different)
	}
}

func TestP10_4EqualExpr(t *testing.T) {
	g := newGenerator(109)
	for range 10000 {
		a := g.expr(4)
		b := clone(a, true)
		if !syntax.EqualExpr(a, b) || !syntax.EqualExpr(clone(a, false), b) {
			t.Fatalf("%+v is not equal to its copy", a)
		}
		g.mutate(&b)
		if syntax.EqualExpr(a, b) != same(a, b) {
			t.Fatalf("EqualExpr(%+v, %+v) = %t", a, b, !same(a, b))
		}
	}
}

// full returns a program all of whose lists have an element, and so all fields of all types of nodes.
func full() api.Program {
	e := api.Expr{Kids: []api.Expr{{Kids: []api.Expr{{}}}}}
	kind := api.Type{Names: []string{"a"}, Of: []api.Type{{Names: []string{"b"}, Of: []api.Type{{}}}}}
	inner := api.Stmt{Place: e, Value: e, Args: []api.Expr{e}, Numbers: []int{1}}
	s := api.Stmt{Place: e, Value: e, Args: []api.Expr{e}, Numbers: []int{1}, Then: []api.Stmt{inner}, Else: []api.Stmt{inner}}
	within := api.Decl{Type: kind, Value: e, Body: []api.Stmt{s}}
	d := api.Decl{Type: kind, Value: e, Params: []api.Decl{within}, Vars: []api.Decl{within}, Body: []api.Stmt{s}}
	return clone(api.Program{Decls: []api.Decl{d}, Body: []api.Stmt{s}}, false)
}

// TestP10_4Fields changes each field of a program alone, whether it is used or not.
func TestP10_4Fields(t *testing.T) {
	p, q := full(), full()
	fields := fieldsOf(reflect.ValueOf(&q).Elem())
	for i, field := range fields {
		before := reflect.New(field.Type()).Elem()
		before.Set(field)
		switch field.Kind() {
		case reflect.Int:
			field.SetInt(field.Int() + 1)
		case reflect.String:
			field.SetString(field.String() + "x")
		case reflect.Slice:
			field.Set(reflect.Append(field, reflect.Zero(field.Type().Elem())))
		}
		if syntax.Equal(p, q) || syntax.Equal(q, p) {
			t.Errorf("a change of the field %d is not seen", i)
		}
		field.Set(before)
		if !syntax.Equal(p, q) {
			t.Fatalf("the field %d is not as before", i)
		}
	}
	if len(fields) < 300 {
		t.Errorf("only %d fields", len(fields))
	}
}

// namesOf is the definition of Names.
func namesOf(p api.Program) []string {
	n := nodesOf(p)
	var names []string
	for _, d := range n.decls {
		names = append(names, d.Name)
	}
	for _, t := range n.types {
		if t.Kind == api.TypeName {
			names = append(names, t.Name)
		}
	}
	for _, e := range n.exprs {
		if e.Op == api.OpName {
			names = append(names, e.Name)
		}
	}
	for _, s := range n.stmts {
		if s.Verb == api.CallStmt || s.Verb == api.ReleaseStmt || s.Verb == api.ForStmt {
			names = append(names, s.Name)
		}
	}
	slices.Sort(names)
	return slices.Compact(names)
}

func TestP10_5SizeAndNames(t *testing.T) {
	g := newGenerator(110)
	for range 4000 {
		p := g.program()
		if g.Intn(3) == 0 {
			g.mutate(&p)
		}
		want := check(p)
		size, sizeCode := syntax.Size(p)
		names, namesCode := syntax.Names(p)
		if sizeCode != want || namesCode != want {
			t.Fatalf("%+v: codes %d, %d, want %d", p, sizeCode, namesCode, want)
		}
		if want != api.OK {
			if size != 0 || len(names) != 0 {
				t.Fatalf("%+v: %d, %v with the code %d", p, size, names, want)
			}
			continue
		}
		if size != nodesOf(p).count() || !slices.Equal(names, namesOf(p)) {
			t.Fatalf("%+v: size %d, names %v, want %d, %v", p, size, names, nodesOf(p).count(), namesOf(p))
		}
	}
}

func TestP10_5Border(t *testing.T) {
	for n := 1020; n <= 1026; n++ {
		p := api.Program{Body: slices.Repeat([]api.Stmt{{Verb: api.WaitStmt}}, n)}
		size, code := syntax.Size(p)
		if n <= 1024 && (size != n || code != api.OK) || n > 1024 && (size != 0 || code != api.ErrLimit) {
			t.Errorf("%d statements: %d, %d", n, size, code)
		}
	}
	if size, code := syntax.Size(api.Program{}); size != 0 || code != api.OK {
		t.Errorf("the empty program: %d, %d", size, code)
	}
	if names, code := syntax.Names(api.Program{}); len(names) != 0 || code != api.OK {
		t.Errorf("the empty program: %v, %d", names, code)
	}
}

// everywhere returns a program in which the name stands wherever a name can, and component for every component.
func everywhere(name, component string) api.Program {
	place := api.Expr{Op: api.OpName, Name: name}
	path := api.Expr{Op: api.OpIndex, Kids: []api.Expr{{Op: api.OpField, Name: component, Kids: []api.Expr{place}}, place}}
	kind := api.Type{Kind: api.TypeRecord, Names: []string{component}, Of: []api.Type{{Kind: api.TypeArray, Size: 2, Of: []api.Type{{Kind: api.TypeName, Name: name}}}}}
	variable := api.Decl{Kind: api.VarDecl, Name: name, Type: kind}
	body := []api.Stmt{
		{Place: path, Value: path},
		{Verb: api.CallStmt, Place: path, Name: name, Args: []api.Expr{path}},
		{Verb: api.ReleaseStmt, Place: path, Name: name},
		{Verb: api.IfStmt, Value: path, Then: []api.Stmt{{Verb: api.OutputStmt, Value: path}}, Else: []api.Stmt{{Verb: api.SettleStmt, Numbers: []int{1, 2}}}},
		{Verb: api.WhileStmt, Value: path, N: 2, Then: []api.Stmt{{Verb: api.WaitStmt}}},
		{Verb: api.ForStmt, Name: name, High: 1, Then: []api.Stmt{{Verb: api.OutputStmt, Value: path}}},
	}
	return clone(api.Program{
		Decls: []api.Decl{
			{Name: name, Type: kind}, {Kind: api.SecretDecl, Name: name, Type: kind}, {Kind: api.HatchDecl, Name: name, Type: kind, Value: path}, variable,
			{Kind: api.FuncDecl, Name: name, Type: kind, Params: []api.Decl{variable}, Vars: []api.Decl{variable}, Body: body, Value: path},
		},
		Body: body,
	}, false)
}

func TestP10_6Everywhere(t *testing.T) {
	for _, component := range []string{"f", "a", "b"} {
		p := everywhere("a", component)
		if names, code := syntax.Names(p); code != api.OK || !slices.Equal(names, []string{"a"}) {
			t.Errorf("names %v, %d", names, code)
		}
		q, code := syntax.Rename(p, "a", "b")
		if code != api.OK || !same(q, everywhere("b", component)) {
			t.Errorf("renamed: %+v, %d", q, code)
		}
	}
}

func TestP10_6Rename(t *testing.T) {
	g := newGenerator(111)
	for range 4000 {
		p := g.program()
		if g.Intn(6) == 0 {
			g.mutate(&p)
		}
		from, to := pick(g, g.name(), "a", "q", "if", ""), pick(g, g.name(), "a", "q", "qq", "A", "abcdefghijklm")
		q, code := syntax.Rename(p, from, to)
		names, want := namesOf(p), check(p)
		switch {
		case want != api.OK:
		case !isName(from) || !isName(to):
			want = api.ErrName
		case slices.Contains(names, to) && to != from:
			want = api.ErrDuplicate
		}
		if code != want || code != api.OK && !same(q, api.Program{}) {
			t.Fatalf("Rename(%+v, %q, %q) = %+v, %d, want %d", p, from, to, q, code, want)
		}
		if code != api.OK {
			continue
		}
		if !slices.Contains(names, from) || from == to {
			if !same(p, q) {
				t.Fatalf("Rename(%+v, %q, %q) = %+v", p, from, to, q)
			}
			continue
		}
		names[slices.Index(names, from)] = to
		slices.Sort(names)
		if !slices.Equal(namesOf(q), names) {
			t.Fatalf("Rename(%+v, %q, %q) has the names %v", p, from, to, namesOf(q))
		}
		back, code := syntax.Rename(q, to, from)
		if code != api.OK || !same(back, p) {
			t.Fatalf("Rename(%+v, %q, %q) and back: %+v, %d", p, from, to, back, code)
		}
	}
}

func TestP10_6Errors(t *testing.T) {
	p := everywhere("a", "f")
	p.Decls[1].Name = "b"
	bad := clone(p, false)
	bad.Decls[0].Kind = 9
	for _, c := range []struct {
		p        api.Program
		from, to string
		code     api.Code
	}{
		{bad, "if", "b", api.ErrArgument}, {p, "if", "b", api.ErrName}, {p, "a", "if", api.ErrName}, {p, "b", "B", api.ErrName},
		{p, "a", "b", api.ErrDuplicate}, {p, "c", "b", api.ErrDuplicate}, {p, "c", "d", api.OK}, {p, "b", "b", api.OK}, {p, "a", "f", api.OK},
		{p, "f", "a", api.ErrDuplicate}, {p, "f", "g", api.OK}, {p, "", "g", api.ErrName}, {p, "a", "abcdefghijklm", api.ErrName},
	} {
		if q, code := syntax.Rename(c.p, c.from, c.to); code != c.code || code != api.OK && !same(q, api.Program{}) {
			t.Errorf("Rename(%q, %q) = %+v, %d", c.from, c.to, q, code)
		}
	}
}

// mentions is the definition of Mentions.
func mentions(e api.Expr, name string) bool {
	n := &nodes{}
	n.addExpr(e, 1)
	return slices.ContainsFunc(n.exprs, func(e api.Expr) bool { return e.Op == api.OpName && e.Name == name })
}

func TestP10_7Mentions(t *testing.T) {
	g := newGenerator(112)
	for range 20000 {
		e := g.expr(5)
		for range 3 {
			for _, name := range []string{"a", "b", "x1", "", "q", "type"} {
				if got := syntax.Mentions(e, name); got != mentions(e, name) {
					t.Fatalf("Mentions(%+v, %q) = %t", e, name, got)
				}
			}
			g.mutate(&e)
		}
	}
}

// TestP10_7AnyKid hides a name at each kid of each operator, also where no kids are allowed, and deeper than is allowed.
func TestP10_7AnyKid(t *testing.T) {
	for op := api.Op(-1); op <= 27; op++ {
		for count := 1; count <= 5; count++ {
			for at := range count {
				kids := make([]api.Expr, count)
				kids[at] = api.Expr{Op: api.OpName, Name: "x"}
				e := api.Expr{Op: op, Name: "y", Kids: kids}
				if !syntax.Mentions(e, "x") || syntax.Mentions(e, "y") != (op == api.OpName) || syntax.Mentions(e, "") {
					t.Errorf("%+v", e)
				}
			}
		}
	}
	field := api.Expr{Op: api.OpField, Name: "x", Kids: []api.Expr{{Op: api.OpName, Name: "a"}}}
	if syntax.Mentions(field, "x") || !syntax.Mentions(field, "a") {
		t.Error("a component counts as a name")
	}
	if !syntax.Mentions(chain(api.OpNeg, 1, 1000), "a") {
		t.Error("a name at the depth 1000 is not found")
	}
}

func TestMemory(t *testing.T) {
	p := everywhere("a", "f")
	before := clone(p, false)
	q, _ := syntax.Rename(p, "a", "b")
	same1, _ := syntax.Rename(p, "c", "d")
	names, _ := syntax.Names(p)
	syntax.Print(p)
	syntax.Size(p)
	syntax.Equal(p, q)
	if !same(p, before) {
		t.Fatal("the argument has been changed")
	}
	expectUnshared(t, &p, &q, &same1, &names)
}

// expectUnshared fails if two lists within the values that the pointers point to share memory.
func expectUnshared(t *testing.T, pointers ...any) {
	t.Helper()
	seen := map[uintptr]bool{}
	for _, pointer := range pointers {
		for _, field := range fieldsOf(reflect.ValueOf(pointer).Elem()) {
			if field.Kind() != reflect.Slice || field.Cap() == 0 {
				continue
			}
			if seen[field.Pointer()] {
				t.Fatalf("a list %v is shared", field)
			}
			seen[field.Pointer()] = true
		}
	}
}
