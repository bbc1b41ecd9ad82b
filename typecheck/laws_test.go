package typecheck_test

import (
	"reflect"
	"slices"
	"strconv"
	"testing"

	"keyhole/api"
	"keyhole/syntax"
	"keyhole/typecheck"
	"keyhole/types"
)

func TestP14_3Renaming(t *testing.T) {
	codes := map[api.Code]int{}
	for seed, slips := range []int{0, 100, 25} {
		g := newGenerator(int64(1430+seed), slips)
		for range 1500 {
			p, _ := g.program()
			at, code := typecheck.Check(p)
			names, listed := syntax.Names(p)
			if listed != api.OK {
				continue
			}
			codes[code]++
			for _, from := range names {
				// The new names are before, between and behind the others.
				renamed, renaming := syntax.Rename(p, from, pick(g, "a", "d0a", "zzz"))
				if gotAt, got := typecheck.Check(renamed); renaming != api.OK || gotAt != at || got != code {
					t.Fatalf("Check = %d, %d, with another name than %s %d, %d: %+v", at, code, from, gotAt, got, p)
				}
			}
		}
	}
	for _, code := range []api.Code{api.OK, api.ErrRange, api.ErrLimit, api.ErrName, api.ErrDuplicate, api.ErrType, api.ErrState} {
		if codes[code] < 20 {
			t.Errorf("only %d programs with the code %d", codes[code], code)
		}
	}
}

// wait returns p with a wait statement before the first statement.
func wait(p api.Program) api.Program {
	p.Body = append([]api.Stmt{{Verb: api.WaitStmt, N: 1}}, p.Body...)
	return p
}

func TestP14_4Waiting(t *testing.T) {
	g := newGenerator(144, 300)
	accepted := 0
	for range 3000 {
		p, _ := g.program()
		if _, code := typecheck.Check(p); code != api.OK {
			continue
		}
		accepted++
		steps, _ := typecheck.Steps(p)
		if at, code := typecheck.Check(wait(p)); at != -1 || code != api.OK {
			t.Fatalf("with a wait statement: %d, %d: %+v", at, code, p)
		}
		if more, code := typecheck.Steps(wait(p)); more != steps+1 || code != api.OK {
			t.Fatalf("%d steps, with a wait statement %d, %d: %+v", steps, more, code, p)
		}
	}
	if accepted < 1000 {
		t.Errorf("only %d programs", accepted)
	}
	full := parse(t, "begin while true limit 4095 { } end")
	if at, code := typecheck.Check(wait(full)); at != -1 || code != api.ErrLimit {
		t.Errorf("with 4097 steps: %d, %d", at, code)
	}
}

// between returns a choice of a number between the bounds, often one of them.
func between(g generator) func(s api.Scalar) int {
	return func(s api.Scalar) int { return pick(g, s.Low, s.High, s.Low+g.Intn(s.High-s.Low+1)) }
}

func TestP14_5Values(t *testing.T) {
	g := newGenerator(145, 0)
	ends := 0
	for range 1500 {
		p, w := g.program()
		if _, code := typecheck.Check(p); code != api.OK {
			continue
		}
		m := &machine{program: p}
		for range 10 {
			e := w.number(5)
			low, high, code := typecheck.Range(p, e)
			if code != api.OK {
				continue
			}
			for range 8 {
				frame := map[string]*cell{}
				for _, v := range w.visible {
					frame[v.name] = variable(*v.of, between(g))
				}
				value := m.value(e, frame)
				if value < low || value > high {
					text, _ := syntax.PrintExpr(e)
					t.Fatalf("Range(%s) = %d, %d, but a value is %d: %+v", text, low, high, value, p)
				}
				if low < high && (value == low || value == high) {
					ends++
				}
			}
		}
	}
	if ends < 5000 {
		t.Errorf("only %d values at the ends", ends)
	}
}

// TestP14_5Operators gives variables with all bounds from -3 to 3 all values.
func TestP14_5Operators(t *testing.T) {
	for bounds := range 7 * 7 * 7 * 7 {
		a := api.Type{Kind: api.TypeInt, Low: bounds%7 - 3, High: bounds/7%7 - 3}
		b := api.Type{Kind: api.TypeInt, Low: bounds/49%7 - 3, High: bounds/343 - 3}
		if a.Low > a.High || b.Low > b.High {
			continue
		}
		p := api.Program{Decls: []api.Decl{{Kind: api.SecretDecl, Name: "a", Type: a}, {Kind: api.VarDecl, Name: "b", Type: b}}}
		x, y := api.Expr{Op: api.OpName, Name: "a"}, api.Expr{Op: api.OpName, Name: "b"}
		for _, e := range []api.Expr{
			{Op: api.OpNeg, Kids: []api.Expr{x}}, {Op: api.OpAdd, Kids: []api.Expr{x, y}}, {Op: api.OpSub, Kids: []api.Expr{x, y}}, {Op: api.OpMul, Kids: []api.Expr{x, y}}, {Op: api.OpDiv, Kids: []api.Expr{x, y}},
			{Op: api.OpMod, Kids: []api.Expr{x, y}}, {Op: api.OpMin, Kids: []api.Expr{x, y}}, {Op: api.OpMax, Kids: []api.Expr{x, y}},
			{Op: api.OpCond, Kids: []api.Expr{{Op: api.OpLt, Kids: []api.Expr{x, y}}, x, y}},
		} {
			low, high, code := typecheck.Range(p, e)
			var values []int
			for i := a.Low; i <= a.High; i++ {
				for k := b.Low; k <= b.High; k++ {
					values = append(values, (&machine{}).value(e, map[string]*cell{"a": {a, []int{i}}, "b": {b, []int{k}}}))
				}
			}
			least, greatest := slices.Min(values), slices.Max(values)
			if code != api.OK || least < low || greatest > high {
				t.Fatalf("the range %d, %d, %d of %+v has values from %d to %d in %+v", low, high, code, e, least, greatest, p.Decls)
			}
			// These operators have the least and the greatest value at the ends of the ranges of their kids.
			if isTight := e.Op <= api.OpMul || e.Op == api.OpMin || e.Op == api.OpMax; isTight && (low != least || high != greatest) {
				t.Fatalf("the range %d, %d of %+v has values from %d to %d only in %+v", low, high, e, least, greatest, p.Decls)
			}
		}
	}
}

func TestP14_6Runs(t *testing.T) {
	g := newGenerator(146, 400)
	runs, full, outputs := 0, 0, 0
	for range 4000 {
		p, _ := g.program()
		steps, code := typecheck.Steps(p)
		if code != api.OK {
			continue
		}
		for range 5 {
			m := run(p, between(g))
			if m.steps > steps || m.outputs > 8 {
				t.Fatalf("%d steps and %d outputs, at most %d: %+v", m.steps, m.outputs, steps, p)
			}
			runs++
			outputs += m.outputs
			if m.steps == steps && steps > 5 {
				full++
			}
		}
	}
	if runs < 10000 || full < 1000 || outputs < 1000 {
		t.Errorf("only %d runs, %d of them with all steps, and %d outputs", runs, full, outputs)
	}
}

// clone returns a copy of v that shares no memory with it. Its empty lists are not nil if they are wanted so.
func clone[T any](v T, empty bool) T {
	result := reflect.New(reflect.TypeOf(v)).Elem()
	cloneInto(result, reflect.ValueOf(v), empty)
	return result.Interface().(T)
}

func cloneInto(to, from reflect.Value, empty bool) {
	switch from.Kind() {
	case reflect.Struct:
		for i := range from.NumField() {
			cloneInto(to.Field(i), from.Field(i), empty)
		}
	case reflect.Slice:
		if from.Len() > 0 || empty {
			to.Set(reflect.MakeSlice(from.Type(), from.Len(), from.Len()))
		}
		for i := range from.Len() {
			cloneInto(to.Index(i), from.Index(i), empty)
		}
	default:
		to.Set(from)
	}
}

// TestEmptyLists has programs with empty lists in place of nil.
func TestEmptyLists(t *testing.T) {
	g := newGenerator(147, 60)
	for range 2000 {
		p, w := g.program()
		e := w.number(4)
		other, otherExpr := clone(p, true), clone(e, true)
		at, code := typecheck.Check(p)
		if gotAt, got := typecheck.Check(other); gotAt != at || got != code {
			t.Fatalf("Check = %d, %d, with empty lists %d, %d: %+v", at, code, gotAt, got, p)
		}
		want, code := typecheck.TypeOf(p, e)
		if got, gotCode := typecheck.TypeOf(other, otherExpr); !types.Equal(got, want) || gotCode != code {
			t.Fatalf("TypeOf = %+v, %d, with empty lists %+v, %d: %+v", want, code, got, gotCode, p)
		}
		if !reflect.DeepEqual(other, clone(p, true)) || !reflect.DeepEqual(otherExpr, clone(e, true)) {
			t.Fatalf("an argument is changed: %+v", p)
		}
	}
}

// TestMemory changes results, which nothing else must show.
func TestMemory(t *testing.T) {
	p := parse(t, "type r = record {x: bool, y: array 2 of int[0..1]}; type two = record {u: r, v: r}; var a: two; var b: r; begin end")
	before := clone(p, false)
	for i, name := range []string{"a", "b"} {
		e := api.Expr{Op: api.OpName, Name: name}
		first, _ := typecheck.TypeOf(p, e)
		want := clone(first, false)
		inner := first
		if name == "a" {
			inner = first.Of[0]
			inner.Names[0], inner.Of[1].Of[0].Low = "z", 9
			if !types.Equal(first.Of[1], want.Of[1]) {
				t.Errorf("two components share memory: %+v", first)
			}
		}
		inner.Names[0], inner.Of[0], inner.Of[1].Of[0].High = "q"+strconv.Itoa(i), api.Type{Kind: api.TypeInt}, 9
		if again, _ := typecheck.TypeOf(p, e); !types.Equal(again, want) || !reflect.DeepEqual(clone(p, false), before) {
			t.Errorf("a result shares memory: %+v, %+v", again, p)
		}
	}
}
