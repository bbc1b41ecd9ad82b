package policy_test

import (
	"regexp"
	"slices"
	"strings"
	"testing"

	"keyhole/api"
	"keyhole/policy"
)

var labelName = regexp.MustCompile(`^[a-z][a-z0-9._]{0,39}$`)

// example is the policy of the chapter's first example.
func example() api.Policy {
	return api.Policy{
		Levels: []string{"low", "high"}, Order: [][2]int{{0, 1}}, Inputs: []api.Label{{Name: "pin", Level: 1}}, Hatches: []api.Label{{Name: "last"}}, Timed: true,
	}
}

func TestP19_1Check(t *testing.T) {
	for i, c := range []struct {
		change func(p *api.Policy)
		want   api.Code
	}{
		{func(p *api.Policy) {}, api.OK},
		{func(p *api.Policy) { *p = api.Policy{Levels: []string{"a"}} }, api.OK},
		{func(p *api.Policy) { *p = api.Policy{} }, api.ErrLimit},
		{func(p *api.Policy) { p.Levels = slices.Repeat([]string{"a"}, 13) }, api.ErrLimit},
		{func(p *api.Policy) { p.Levels[1] = "High" }, api.ErrName},
		{func(p *api.Policy) { p.Levels[1] = "low" }, api.ErrDuplicate},
		{func(p *api.Policy) { p.Order[0][1] = 2 }, api.ErrRange},
		{func(p *api.Policy) { p.Order = append(p.Order, [2]int{1, 0}) }, api.ErrOrder},
		{func(p *api.Policy) { p.Order = nil }, api.ErrMissing},
		// The lattice is asked for before the labels, these before the observer.
		{func(p *api.Policy) { p.Order, p.Inputs[0].Name, p.Observer = nil, "", 2 }, api.ErrMissing},
		{func(p *api.Policy) { p.Inputs[0].Level, p.Hatches = 2, newGenerator(1).many(65) }, api.ErrLimit},
		{func(p *api.Policy) { p.Inputs, p.Hatches = newGenerator(1).many(65), nil }, api.ErrLimit},
		{func(p *api.Policy) { p.Inputs, p.Hatches = newGenerator(1).many(64), newGenerator(1).many(64) }, api.OK},
		{func(p *api.Policy) { p.Inputs[0].Name, p.Hatches[0].Level = "Pin", 2 }, api.ErrName},
		{func(p *api.Policy) { p.Inputs[0], p.Hatches[0].Name = api.Label{Name: "pin", Level: -1}, "" }, api.ErrRange},
		{func(p *api.Policy) { p.Inputs = append(p.Inputs, api.Label{Name: "pin", Level: 2}) }, api.ErrDuplicate},
		{func(p *api.Policy) { p.Inputs = append(p.Inputs, api.Label{Name: "Pin", Level: 2}) }, api.ErrName},
		{func(p *api.Policy) { p.Inputs = []api.Label{{Name: "a", Level: 2}, {Name: "A"}} }, api.ErrRange},
		{func(p *api.Policy) { p.Hatches[0].Name, p.Observer = "9", 2 }, api.ErrName},
		{func(p *api.Policy) { p.Hatches = append(p.Hatches, p.Hatches[0]) }, api.ErrDuplicate},
		{func(p *api.Policy) { p.Hatches[0].Level = 2 }, api.ErrRange},
		// An input and a hatch may have the same name.
		{func(p *api.Policy) { p.Hatches[0].Name = "pin" }, api.OK},
		{func(p *api.Policy) { p.Observer = 1 }, api.OK},
		{func(p *api.Policy) { p.Observer = 2 }, api.ErrRange},
		{func(p *api.Policy) { p.Observer = -1 }, api.ErrRange},
	} {
		p := example()
		c.change(&p)
		if got := policy.Check(p); got != c.want || check(p) != c.want {
			t.Errorf("%d: Check = %d, the model says %d, want %d", i, got, check(p), c.want)
		}
	}
}

func TestP19_1LabelNames(t *testing.T) {
	for b := range 256 {
		for _, name := range []string{string([]byte{byte(b)}), "a" + string([]byte{byte(b)}), string([]byte{byte(b)}) + "a", "pin." + string([]byte{byte(b)}) + "0"} {
			p, want := example(), api.ErrName
			if labelName.MatchString(name) {
				want = api.OK
			}
			p.Hatches[0].Name = name
			if got := policy.Check(p); got != want {
				t.Errorf("Check with the hatch %q = %d, want %d", name, got, want)
			}
			p.Hatches[0].Name, p.Inputs[0].Name = "a", name
			if got := policy.Check(p); got != want {
				t.Errorf("Check with the input %q = %d, want %d", name, got, want)
			}
		}
	}
	for length, want := range map[int]api.Code{0: api.ErrName, 39: api.OK, 40: api.OK, 41: api.ErrName, 9000: api.ErrName} {
		p := example()
		p.Inputs[0].Name = strings.Repeat("n", length)
		if got := policy.Check(p); got != want {
			t.Errorf("Check with a name of %d bytes = %d", length, got)
		}
	}
}

func TestP19_1Random(t *testing.T) {
	g := newGenerator(191)
	codes := map[api.Code]int{}
	for range 30000 {
		p := g.disturbed()
		old := clone(p)
		got := policy.Check(p)
		if want := check(p); got != want {
			t.Fatalf("Check = %d, want %d: %+v", got, want, p)
		}
		if !equal(p, old) {
			t.Fatalf("the argument is changed: %+v", p)
		}
		codes[got]++
	}
	for _, code := range []api.Code{api.OK, api.ErrLimit, api.ErrName, api.ErrDuplicate, api.ErrRange, api.ErrOrder, api.ErrMissing} {
		if codes[code] < 100 {
			t.Errorf("only %d policies with the code %d", codes[code], code)
		}
	}
}

func TestP19_3Levels(t *testing.T) {
	for _, p := range lattices {
		for a := -1; a <= len(p.Levels); a++ {
			for b := -1; b <= len(p.Levels); b++ {
				isLevel := a >= 0 && a < len(p.Levels) && b >= 0 && b < len(p.Levels)
				want, wantCode := isLevel && isBelow(p, a, b), api.OK
				if !isLevel {
					wantCode = api.ErrRange
				}
				if got, code := policy.Below(p, a, b); got != want || code != wantCode {
					t.Errorf("Below(%d, %d) = %v, %d: %v", a, b, got, code, p)
				}
				got, code := policy.Join(p, []int{a, b})
				if code != wantCode || !isLevel && got != 0 || isLevel && got != join(p, a, b) {
					t.Errorf("Join(%d, %d) = %d, %d: %v", a, b, got, code, p)
				}
			}
		}
	}
	for i, far := range []int{2, -1, 1 << 62, -1 << 63} {
		if _, code := policy.Below(example(), 0, far); code != api.ErrRange {
			t.Errorf("%d: Below = %d", i, code)
		}
		if _, code := policy.Join(example(), []int{1, 0, far}); code != api.ErrRange {
			t.Errorf("%d: Join = %d", i, code)
		}
	}
}

// join returns the level that is above all the levels and below each other one that is.
func join(p api.Policy, levels ...int) int {
	isUpper := func(i int) bool {
		return !slices.ContainsFunc(levels, func(level int) bool { return !isBelow(p, level, i) })
	}
	for i := range p.Levels {
		isLeast := isUpper(i)
		for other := range p.Levels {
			isLeast = isLeast && (!isUpper(other) || isBelow(p, i, other))
		}
		if isLeast {
			return i
		}
	}
	panic("there is no join")
}

func TestP19_3Random(t *testing.T) {
	g := newGenerator(193)
	for range 5000 {
		p := g.policy()
		levels := make([]int, g.Intn(5))
		for i := range levels {
			levels[i] = g.Intn(len(p.Levels))
		}
		old := slices.Clone(levels)
		if got, code := policy.Join(p, levels); got != join(p, levels...) || code != api.OK || !slices.Equal(levels, old) {
			t.Fatalf("Join(%v) = %d, %d: %+v", levels, got, code, p)
		}
	}
	for range 5000 {
		p := g.disturbed()
		if check(p) == api.OK {
			continue
		}
		if got, code := policy.Join(p, []int{99}); got != 0 || code != api.ErrArgument {
			t.Fatalf("Join = %d, %d: %+v", got, code, p)
		}
		if got, code := policy.Below(p, 0, 99); got || code != api.ErrArgument {
			t.Fatalf("Below = %v, %d: %+v", got, code, p)
		}
		if got, code := policy.Print(p); got != "" || code != api.ErrArgument {
			t.Fatalf("Print = %q, %d: %+v", got, code, p)
		}
	}
}
