package policy_test

import (
	"math/rand"
	"slices"
	"strings"

	"keyhole/api"
	"keyhole/lattice"
	"keyhole/policy"
)

// generator makes random policies, texts and programs.
type generator struct {
	*rand.Rand
}

func newGenerator(seed int64) generator {
	return generator{rand.New(rand.NewSource(seed))}
}

func pick[T any](g generator, list ...T) T {
	return list[g.Intn(len(list))]
}

// lattices are names of levels and pairs of them that make lattices.
var lattices = []api.Policy{
	{Levels: []string{"low"}},
	{Levels: []string{"low", "high"}, Order: [][2]int{{0, 1}}},
	{Levels: []string{"timed", "a1"}, Order: [][2]int{{1, 0}, {1, 0}, {0, 0}}},
	{Levels: []string{"b", "observe", "left", "right"}, Order: [][2]int{{0, 2}, {0, 3}, {2, 1}, {3, 1}, {0, 1}}},
	{Levels: []string{"a", "b", "c", "d", "e"}, Order: [][2]int{{4, 3}, {3, 2}, {2, 1}, {1, 0}}},
	{Levels: []string{"top", "x", "y", "z", "bottom"}, Order: [][2]int{{4, 1}, {4, 2}, {4, 3}, {1, 0}, {2, 0}, {3, 0}}},
}

// names are names of inputs and hatches, of which some are components of others.
var names = []string{"pin", "pin.0", "pin.1", "pin.1.x", "pins", "pin_0", "p", "guess", "guess.a", "guess.a.0", "g", "r", "r.0", "timed", "levels", "x..y", "x.", strings.Repeat("n", 38) + ".0"}

// labels returns labels with different names.
func (g generator) labels(levels int) []api.Label {
	var list []api.Label
	for _, i := range g.Perm(len(names))[:g.Intn(5)] {
		list = append(list, api.Label{Name: names[i], Level: g.Intn(levels)})
	}
	return list
}

// policy returns a policy.
func (g generator) policy() api.Policy {
	p := pick(g, lattices...)
	p.Inputs, p.Hatches = g.labels(len(p.Levels)), g.labels(len(p.Levels))
	p.Observer, p.Timed = g.Intn(len(p.Levels)), g.Intn(2) == 0
	return clone(p)
}

func clone(p api.Policy) api.Policy {
	p.Levels, p.Order, p.Inputs, p.Hatches = slices.Clone(p.Levels), slices.Clone(p.Order), slices.Clone(p.Inputs), slices.Clone(p.Hatches)
	return p
}

// disturbed returns a policy that may have errors.
func (g generator) disturbed() api.Policy {
	p := g.policy()
	for range g.Intn(3) {
		labels := pick(g, &p.Inputs, &p.Hatches)
		switch g.Intn(8) {
		case 0:
			p.Levels[g.Intn(len(p.Levels))] = pick(g, "low", "a", "Low", "", "a.b", "a_b", "1", strings.Repeat("a", 12), strings.Repeat("a", 13))
		case 1:
			p.Order = append(p.Order, [2]int{g.Intn(7) - 1, g.Intn(7) - 1})
		case 2:
			p.Order = p.Order[:g.Intn(len(p.Order)+1)]
		case 3:
			p.Observer = pick(g, -1, len(p.Levels), 1<<62, 0)
		case 4:
			*labels = append(*labels, api.Label{Name: pick(g, "", "P", "1a", ".a", "_", "a-b", "a b", "\u00e4", "a\x00", strings.Repeat("n", 40), strings.Repeat("n", 41), "pin", "a"), Level: g.Intn(2)})
		case 5:
			*labels = append(*labels, api.Label{Name: pick(g, "q", "q.0", "pin"), Level: g.Intn(7) - 1})
		case 6:
			*labels = g.many(pick(g, 63, 64, 65, 66))
		case 7:
			p.Levels = append(p.Levels, pick(g, []string{"m1"}, []string{"m1", "m2", "m3", "m4", "m5", "m6", "m7", "m8", "m9", "m10", "m11", "m12"})...)
		}
	}
	return p
}

// many returns as many labels as are wanted.
func (g generator) many(count int) []api.Label {
	var list []api.Label
	for i := range count {
		list = append(list, api.Label{Name: "m" + strings.Repeat("a", i%8) + strings.Repeat("b", i/8)})
	}
	return list
}

// isBelow is the reflexive and transitive closure of the pairs of a policy.
func isBelow(p api.Policy, a, b int) bool {
	reached := map[int]bool{a: true}
	for range p.Levels {
		for _, pair := range p.Order {
			if reached[pair[0]] {
				reached[pair[1]] = true
			}
		}
	}
	return reached[b]
}

// check is what the chapter says of policies.
func check(p api.Policy) api.Code {
	if _, code := lattice.New(p.Levels, p.Order); code != api.OK {
		return code
	}
	if len(p.Inputs) > 64 || len(p.Hatches) > 64 {
		return api.ErrLimit
	}
	for _, list := range [][]api.Label{p.Inputs, p.Hatches} {
		for i, label := range list {
			isTwin := slices.ContainsFunc(list[:i], func(other api.Label) bool { return other.Name == label.Name })
			switch {
			case !labelName.MatchString(label.Name):
				return api.ErrName
			case isTwin:
				return api.ErrDuplicate
			case label.Level < 0 || label.Level >= len(p.Levels):
				return api.ErrRange
			}
		}
	}
	if p.Observer < 0 || p.Observer >= len(p.Levels) {
		return api.ErrRange
	}
	return api.OK
}

// vars returns variables of a program, some of which may be covered by labels.
func (g generator) vars() []api.Var {
	var list []api.Var
	for _, i := range g.Perm(len(names))[:g.Intn(8)] {
		list = append(list, api.Var{Name: names[i], Kind: pick(g, api.Local, api.Secret, api.Secret, api.Public, api.Random), High: g.Intn(2)})
	}
	return list
}

// flat returns a program to which labels may fit.
func (g generator) flat() api.Flat {
	f := api.Flat{Vars: g.vars()}
	for _, i := range g.Perm(len(names))[:g.Intn(4)] {
		f.Hatches = append(f.Hatches, api.Hatch{Name: names[i], High: 1})
	}
	return f
}

// fitting returns labels only for what is in the program.
func fitting(f api.Flat, p api.Policy) api.Policy {
	p = clone(p)
	p.Inputs = slices.DeleteFunc(p.Inputs, func(label api.Label) bool {
		return !slices.ContainsFunc(f.Vars, func(v api.Var) bool { return v.Kind != api.Local && isCovered(v.Name, label.Name) })
	})
	p.Hatches = slices.DeleteFunc(p.Hatches, func(label api.Label) bool {
		return !slices.ContainsFunc(f.Hatches, func(h api.Hatch) bool { return h.Name == label.Name })
	})
	return p
}

// isCovered reports whether one of the parts of a name that end before a dot or at the end is the name of a label.
func isCovered(name, label string) bool {
	for i := range len(name) + 1 {
		if (i == len(name) || name[i] == '.') && name[:i] == label {
			return true
		}
	}
	return false
}

func equal(p, q api.Policy) bool {
	return slices.Equal(p.Levels, q.Levels) && slices.Equal(p.Order, q.Order) && slices.Equal(p.Inputs, q.Inputs) && slices.Equal(p.Hatches, q.Hatches) && p.Observer == q.Observer && p.Timed == q.Timed
}

func isZero(p api.Policy) bool { return equal(p, api.Policy{}) }

// printed returns the text of a valid policy.
func printed(p api.Policy) string {
	text, _ := policy.Print(p)
	return text
}
