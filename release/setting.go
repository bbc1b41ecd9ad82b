package release

import (
	"strconv"

	"keyhole/api"
	"keyhole/domain"
	"keyhole/flat"
	"keyhole/partition"
	"keyhole/policy"
)

// rules say which inputs and which hatches of a program the observer may know.
type rules struct {
	visible, released []bool
}

// rulesOf returns what p says of f.
func rulesOf(f api.Flat, p api.Policy) (rules, api.Code) {
	if code := flat.Check(f); code != api.OK {
		return rules{}, code
	}
	visible, code := policy.Visible(f, p)
	if code != api.OK {
		return rules{}, code
	}
	released, code := policy.Released(f, p)
	return rules{visible, released}, code
}

// setting is a valid program with the values of its inputs that are not secret, and all its secrets by their ranks.
type setting struct {
	program        api.Flat
	public, random []int
	secrets        [][]int
}

// settingOf returns the setting of a valid program with these values.
func settingOf(f api.Flat, public, random []int) (setting, api.Code) {
	s := setting{program: f, public: public, random: random}
	size, _ := domain.Space(f.Vars, api.Secret)
	for rank := range size {
		secret, _ := domain.Unrank(f.Vars, api.Secret, rank)
		s.secrets = append(s.secrets, secret)
	}
	_, code := startOf(f, s.inputs(s.secrets[0]))
	return s, code
}

// inputs returns the values of all inputs with a secret.
func (s setting) inputs(secret []int) api.Inputs {
	return api.Inputs{Secret: secret, Public: s.public, Random: s.random}
}

// permitted returns the partition of the secrets by what the observer may know.
func (s setting) permitted(r rules) []int {
	f := s.program
	return s.classes(func(in api.Inputs) []int {
		start, _ := startOf(f, in)
		var known []int
		for i, v := range f.Vars {
			if v.Kind == api.Secret && r.visible[i] {
				known = append(known, start[i])
			}
		}
		for i, h := range f.Hatches {
			if r.released[i] {
				known = append(known, valueOf(f, start, h))
			}
		}
		return known
	})
}

// actual returns the partition of the secrets by their observations.
func (s setting) actual(timed bool) []int {
	return s.classes(func(in api.Inputs) []int {
		o, _ := flat.Run(s.program, in)
		o = flat.Seen(o, timed)
		return append(o.Outputs, o.Time)
	})
}

// classes returns the partition of the secrets in which those are together for which known returns the same numbers.
func (s setting) classes(known func(in api.Inputs) []int) []int {
	names := map[string]int{}
	name := func(key string) int {
		c, ok := names[key]
		if !ok {
			c = len(names)
			names[key] = c
		}
		return c
	}
	var p []int
	for _, secret := range s.secrets {
		p = append(p, name(text(known(s.inputs(secret)))))
	}
	return p
}

// text returns a text that stands for the numbers, and for no other ones.
func text(numbers []int) string {
	var key []byte
	for _, n := range numbers {
		key = append(strconv.AppendInt(key, int64(n), 10), ' ')
	}
	return string(key)
}

// startOf returns the values of all variables of a valid program at the start.
func startOf(f api.Flat, in api.Inputs) ([]int, api.Code) {
	return flat.Final(api.Flat{Vars: f.Vars}, in)
}

// valueOf returns the value of a hatch of f, where the variables have their values at the start.
func valueOf(f api.Flat, start []int, h api.Hatch) int {
	value, _ := flat.Eval(f.Vars, start, h.Term)
	return min(max(value, h.Low), h.High)
}

// apart returns the first two elements that are together in p and apart in q, and whether there are any: the least first one, and
// the least second one with it.
func apart(p, q []int) (a, b int, found bool) {
	var first []int // of each class of p
	for element, c := range p {
		if c == len(first) {
			first = append(first, element)
		}
		if q[element] != q[first[c]] && (!found || first[c] < a) {
			a, b, found = first[c], element, true
		}
	}
	return a, b, found
}

// most returns the greatest number of classes of q to which elements of one class of p belong.
func most(p, q []int) int {
	meet, _ := partition.Meet(p, q)
	var around []int // the class of p around each class of the meet
	for element, c := range meet {
		if c == len(around) {
			around = append(around, p[element])
		}
	}
	return partition.Largest(partition.Of(around))
}
