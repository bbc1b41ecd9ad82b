package ddnnf_test

import (
	"math/rand"
	"slices"

	"keyhole/api"
	"keyhole/sample"
)

// The parts of all kinds.
var (
	always = api.Part{Kind: api.PartTrue}
	never  = api.Part{Kind: api.PartFalse}
)

func lit(n int) api.Part       { return api.Part{Kind: api.PartLit, Lit: n} }
func and(kids ...int) api.Part { return api.Part{Kind: api.PartAnd, Kids: kids} }
func dec(v, no, yes int) api.Part {
	return api.Part{Kind: api.PartDecide, Lit: v, Kids: []int{no, yes}}
}

// example is the normal form of the chapter's first example.
func example() api.Dnnf {
	return api.Dnnf{Vars: 3, Parts: []api.Part{lit(2), lit(-3), and(0, 1), dec(1, 2, 0)}}
}

// mentioned returns the variables that each part mentions, as lists.
func mentioned(parts []api.Part) [][]int {
	var all [][]int
	for _, p := range parts {
		var own []int
		if p.Lit != 0 {
			own = append(own, max(p.Lit, -p.Lit))
		}
		for _, kid := range p.Kids {
			own = append(own, all[kid]...)
		}
		slices.Sort(own)
		all = append(all, slices.Compact(own))
	}
	return all
}

// isApart reports whether two lists have no common element.
func isApart(a, b []int) bool {
	return !slices.ContainsFunc(a, func(v int) bool { return slices.Contains(b, v) })
}

// random returns a random valid normal form of at most so many variables, whose last parts mention many of them.
func random(r *rand.Rand, most, parts int) api.Dnnf {
	d := api.Dnnf{Vars: r.Intn(most + 1)}
	for len(d.Parts) < parts {
		p := []api.Part{always, never, lit(1), and(), dec(1, 0, 0), and(), dec(1, 0, 0)}[r.Intn(7)]
		all := mentioned(d.Parts)
		kid := func() int { return max(r.Intn(len(all)), r.Intn(len(all))) }
		switch {
		case p.Kind == api.PartFalse && r.Intn(3) > 0 || p.Lit != 0 && d.Vars == 0 || p.Kind == api.PartDecide && len(all) == 0:
			continue
		case p.Kind == api.PartLit:
			p = lit(sample.Clause(r.Intn, d.Vars, 1)[0])
		case p.Kind == api.PartDecide:
			p = dec(1+r.Intn(d.Vars), kid(), kid())
			if !isApart(all[p.Kids[0]], []int{p.Lit}) || !isApart(all[p.Kids[1]], []int{p.Lit}) {
				continue
			}
		case p.Kind == api.PartAnd && len(all) > 0:
			var met []int
			for range r.Intn(6) {
				if k := kid(); isApart(met, all[k]) {
					p.Kids = append(p.Kids, k)
					met = append(met, all[k]...)
				}
			}
		}
		d.Parts = append(d.Parts, p)
	}
	return d
}

// disturbed returns a normal form with some numbers changed.
func disturbed(r *rand.Rand, d api.Dnnf) api.Dnnf {
	d.Parts = slices.Clone(d.Parts)
	for range 1 + r.Intn(2) {
		i := r.Intn(len(d.Parts))
		p := &d.Parts[i]
		p.Kids = slices.Clone(p.Kids)
		switch r.Intn(8) {
		case 0:
			p.Kind = api.PartKind(r.Intn(7) - 1)
		case 1:
			p.Lit = r.Intn(2*d.Vars+5) - d.Vars - 2
		case 2:
			p.Lit = 0
		case 3:
			p.Kids = append(p.Kids, r.Intn(len(d.Parts)+2)-1)
		case 4:
			p.Kids = p.Kids[:len(p.Kids)/2]
		case 5, 6:
			if len(p.Kids) > 0 {
				p.Kids[r.Intn(len(p.Kids))] = r.Intn(len(d.Parts)+2) - 1
			}
		case 7:
			d.Vars += r.Intn(3) - 1
		}
	}
	return d
}

// wide returns a normal form of many variables and its count: a conjunction of decisions between conjunctions of literals.
func wide(vars int) (d api.Dnnf, count int) {
	d = api.Dnnf{Vars: vars, Parts: []api.Part{always}}
	var kids []int
	count = 1
	for v := 1; v+3 <= vars; v += 4 {
		at := len(d.Parts)
		d.Parts = append(d.Parts, lit(v), lit(-v-1), and(at, at+1), dec(v+3, at+2, at+1))
		kids = append(kids, at+3)
		count *= 2*1 + 4 // for false one choice of two and a free variable, for true one choice and two free variables
	}
	d.Parts = append(d.Parts, and(kids...))
	return d, count << (vars % 4)
}
