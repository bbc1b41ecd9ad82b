package interp_test

import (
	"slices"
	"strings"
	"testing"

	"keyhole/api"
	"keyhole/cost"
	"keyhole/interp"
	"keyhole/syntax"
	"keyhole/typecheck"
	"keyhole/types"
)

func TestP16_3Bounds(t *testing.T) {
	g := newGenerator(164)
	runs, outputs := 0, 0
	for range 5000 {
		p, c := g.program(), g.costs()
		in := g.inputs(p)
		final, code := interp.Final(p, c, in)
		if code != api.OK {
			continue
		}
		seen, _ := interp.Run(p, c, in)
		if len(seen.Outputs) > 8 {
			t.Fatalf("%d outputs: %+v", len(seen.Outputs), p)
		}
		runs++
		outputs += len(seen.Outputs)
		rest := map[api.DeclKind][]int{api.SecretDecl: in.Secret, api.PublicDecl: in.Public, api.RandomDecl: in.Random}
		for _, d := range p.Decls {
			if d.Kind < api.SecretDecl || d.Kind > api.VarDecl {
				continue
			}
			of, _ := types.Expand(p.Decls, d.Type)
			scalars, _ := types.Scalars(of)
			values := final[:len(scalars)]
			final = final[len(scalars):]
			if !types.Contains(of, values) {
				t.Fatalf("%s is %v at the end: %+v", d.Name, values, p)
			}
			if d.Kind != api.VarDecl {
				if !slices.Equal(values, rest[d.Kind][:len(scalars)]) {
					t.Fatalf("the input %s is %v at the end: %v, %+v", d.Name, values, in, p)
				}
				rest[d.Kind] = rest[d.Kind][len(scalars):]
			}
		}
		if len(final) > 0 {
			t.Fatalf("%v is left: %+v", final, p)
		}
	}
	if runs < 2500 || outputs < 1000 {
		t.Errorf("only %d runs and %d outputs", runs, outputs)
	}
}

// split returns two models with the sum of c.
func (g generator) split(c api.Costs) (a, b api.Costs) {
	var texts [2][]string
	sum, _ := cost.Print(c)
	names := strings.Fields(sum)
	for i, value := range cost.List(c) {
		part := g.Intn(value + 1)
		for k, n := range []int{part, value - part} {
			texts[k] = append(texts[k], names[2*i]+" "+strings.Repeat(" ", i%2)+digits(n))
		}
	}
	a, _ = cost.Parse(strings.Join(texts[0], ","))
	b, _ = cost.Parse(strings.Join(texts[1], ","))
	return a, b
}

func digits(n int) string {
	text := string(rune('0' + n%10))
	if n > 9 {
		return digits(n/10) + text
	}
	return text
}

func TestP16_4CostModels(t *testing.T) {
	g := newGenerator(165)
	added, settled := 0, 0
	for range 4000 {
		p, c := g.program(), g.costs()
		in := g.inputs(p)
		if _, code := typecheck.Check(p); code != api.OK {
			continue
		}
		a, b := g.split(c)
		var seen [4]api.Observation
		var final [4][]int
		for i, model := range []api.Costs{c, a, b, {}} {
			var code api.Code
			seen[i], code = interp.Run(p, model, in)
			final[i], _ = interp.Final(p, model, in)
			if code != api.OK {
				t.Fatalf("Run = %d: %v, %+v", code, model, p)
			}
			if !slices.Equal(seen[i].Outputs, seen[0].Outputs) || !slices.Equal(final[i], final[0]) {
				t.Fatalf("the cost model matters: %v, %v, %v, %v: %+v", seen[0], seen[i], final[0], final[i], p)
			}
		}
		_, m := modelRun(p, c, in)
		if m.settled {
			settled++
			continue
		}
		added++
		// Without costs the time is that of the wait statements.
		if seen[3].Time != m.waited || seen[0].Time != seen[1].Time+seen[2].Time-m.waited {
			t.Fatalf("the times %d and %d give %d, where %d (%d) is waited: %v, %v, %+v", seen[1].Time, seen[2].Time, seen[0].Time, m.waited, seen[3].Time, a, b, p)
		}
	}
	if added < 1500 || settled < 500 {
		t.Errorf("only %d sums, and %d programs that settle", added, settled)
	}
}

func TestP16_5Renaming(t *testing.T) {
	g := newGenerator(166)
	renamings := 0
	for range 1500 {
		p, c := g.program(), g.costs()
		in := g.inputs(p)
		seen, code := interp.Run(p, c, in)
		final, _ := interp.Final(p, c, in)
		hatches, _ := interp.Hatches(p, in)
		names, listed := syntax.Names(p)
		if listed != api.OK || code != api.OK {
			continue
		}
		for _, from := range names {
			renamed, renaming := syntax.Rename(p, from, pick(g, "a", "d0a", "zzz", "x", "y"))
			got, gotCode := interp.Run(renamed, c, in)
			gotFinal, _ := interp.Final(renamed, c, in)
			gotHatches, _ := interp.Hatches(renamed, in)
			if renaming != api.OK || gotCode != api.OK || !equalSeen(got, seen) || !slices.Equal(gotFinal, final) || !slices.Equal(gotHatches, hatches) {
				t.Fatalf("with another name than %s %v, %v, %v, %d: %+v", from, got, gotFinal, gotHatches, gotCode, p)
			}
			renamings++
		}
	}
	if renamings < 5000 {
		t.Errorf("only %d renamings", renamings)
	}
}

// releases reports whether statements release the hatch.
func releases(list []api.Stmt, name string) bool {
	return slices.ContainsFunc(list, func(s api.Stmt) bool {
		return s.Verb == api.ReleaseStmt && s.Name == name || releases(s.Then, name) || releases(s.Else, name)
	})
}

func TestP16_5Hatches(t *testing.T) {
	g := newGenerator(167)
	removed, kept := 0, 0
	for range 6000 {
		p, c := g.program(), g.costs()
		in := g.inputs(p)
		seen, code := interp.Run(p, c, in)
		if code != api.OK {
			continue
		}
		final, _ := interp.Final(p, c, in)
		for i, d := range p.Decls {
			if d.Kind != api.HatchDecl {
				continue
			}
			if releases(p.Body, d.Name) {
				kept++
				continue
			}
			without := p
			without.Decls = slices.Delete(slices.Clone(p.Decls), i, i+1)
			got, gotCode := interp.Run(without, c, in)
			gotFinal, _ := interp.Final(without, c, in)
			if gotCode != api.OK || !equalSeen(got, seen) || !slices.Equal(gotFinal, final) {
				t.Fatalf("without the hatch %s %v, %v, %d: %+v", d.Name, got, gotFinal, gotCode, p)
			}
			removed++
		}
	}
	if removed < 1000 || kept < 100 {
		t.Errorf("only %d hatches removed, %d released", removed, kept)
	}
}

// TestLongRuns has programs that work as much as they may.
func TestLongRuns(t *testing.T) {
	var b strings.Builder
	// Each type is as large as a variable may be, so that nothing may be done again for each of them.
	b.WriteString("type t0 = array 31 of bool;")
	for i := range 150 {
		b.WriteString("type t" + digits(i+1) + " = t" + digits(i) + ";")
	}
	b.WriteString("secret s: bool; var a: t150; func f(x: t150): t150 { for k = 0 to 30 { x[k] = !x[k]; } return x; } var b: t149; begin ")
	b.WriteString("for i = 1 to 50 { a = call f(a); b = a; a[i] = s; } end")
	p := parse(t, b.String())
	for secret := range 2 {
		in := api.Inputs{Secret: []int{secret}}
		want, _ := modelRun(p, cost.Default(), in)
		got, code := interp.Run(p, cost.Default(), in)
		if !equalSeen(got, want.seen) || code != api.OK {
			t.Errorf("Run = %v, %d, want %v", got, code, want.seen)
		}
		if final, _ := interp.Final(p, cost.Default(), in); !slices.Equal(final, want.final) {
			t.Errorf("Final = %v, want %v", final, want.final)
		}
	}
	p = parse(t, "var x: int[0..4095]; begin while x >= 0 limit 2047 { x = x + 2; } output x; end")
	if got, code := interp.Run(p, api.Costs{Loop: 1}, api.Inputs{}); !equalSeen(got, api.Observation{Outputs: []int{4094}, Time: 2047}) || code != api.OK {
		t.Errorf("Run = %v, %d", got, code)
	}
}
