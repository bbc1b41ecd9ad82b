package bitset_test

import (
	"math"
	"math/rand"
	"slices"
	"strconv"
	"strings"
	"testing"

	"keyhole/api"
	"keyhole/bitset"
)

// sizes are the sizes at the borders of words and of the limit.
var sizes = []int{0, 1, 2, 7, 8, 63, 64, 65, 127, 128, 129, 4032, 4033, 4095, 4096}

// model is a set as a list of truth values.
type model []bool

func (m model) set() api.Set {
	s := api.Set{Size: len(m), Words: make([]uint64, (len(m)+63)/64)}
	for i, in := range m {
		if in {
			s.Words[i/64] += 1 << (i % 64)
		}
	}
	return s
}

func (m model) members() []int {
	var list []int
	for i, in := range m {
		if in {
			list = append(list, i)
		}
	}
	return list
}

func (m model) text() string {
	var digits []string
	for _, i := range m.members() {
		digits = append(digits, strconv.Itoa(i))
	}
	return "{" + strings.Join(digits, ", ") + "}/" + strconv.Itoa(len(m))
}

// models returns sets of one size: empty, full, with single members at the borders, and random ones.
func models(size int) []model {
	source := rand.New(rand.NewSource(int64(size)))
	fill := func(in func(i int) bool) model {
		m := make(model, size)
		for i := range m {
			m[i] = in(i)
		}
		return m
	}
	list := []model{
		fill(func(int) bool { return false }),
		fill(func(int) bool { return true }),
		fill(func(i int) bool { return i == 0 }),
		fill(func(i int) bool { return i == size-1 }),
		fill(func(i int) bool { return i == size/2 }),
		fill(func(i int) bool { return i%64 == 63 }),
	}
	for _, chance := range []int{2, 2, 10} {
		list = append(list, fill(func(int) bool { return source.Intn(chance) == 0 }))
	}
	return list
}

// broken returns structs that are no sets.
func broken() []api.Set {
	return []api.Set{
		{Size: -1}, {Size: math.MinInt}, {Size: math.MaxInt}, {Size: -64, Words: []uint64{}}, {Size: 1}, {Size: 0, Words: []uint64{0}},
		{Size: 8, Words: []uint64{256}}, {Size: 8, Words: []uint64{1, 0}}, {Size: 64, Words: []uint64{1, 0}}, {Size: 65, Words: []uint64{1}},
		{Size: 65, Words: []uint64{1, 2}}, {Size: 63, Words: []uint64{1 << 63}}, {Size: 4097, Words: make([]uint64, 65)}, {Size: 4096, Words: make([]uint64, 65)},
		{Size: 4160, Words: make([]uint64, 65)},
	}
}

func same(a, b api.Set) bool {
	return a.Size == b.Size && slices.Equal(a.Words, b.Words)
}

// expect fails unless the result is the set want with the code OK.
func expect(t *testing.T, want api.Set, what string, got api.Set, code api.Code) {
	t.Helper()
	if code != api.OK || !same(got, want) {
		t.Fatalf("%s = %v, %d, want %v", what, got, code, want)
	}
}

// refuse fails unless the result is the code want with the zero struct.
func refuse(t *testing.T, want api.Code, what string, got api.Set, code api.Code) {
	t.Helper()
	if code != want || !same(got, api.Set{}) {
		t.Errorf("%s = %v, %d, want code %d", what, got, code, want)
	}
}

func TestP3_1Valid(t *testing.T) {
	for _, size := range sizes {
		for _, m := range models(size) {
			if !bitset.Valid(m.set()) {
				t.Errorf("Valid(%s) is false", m.text())
			}
		}
	}
	for _, s := range broken() {
		if bitset.Valid(s) {
			t.Errorf("Valid of size %d with %d words is true", s.Size, len(s.Words))
		}
	}
	if !bitset.Valid(api.Set{}) {
		t.Error("the zero value is not valid")
	}
}

func TestP3_1Constructors(t *testing.T) {
	for _, size := range sizes {
		list := models(size)
		s, code := bitset.New(size)
		expect(t, list[0].set(), "New", s, code)
		s, code = bitset.All(size)
		expect(t, list[1].set(), "All", s, code)
		for _, m := range list {
			members := m.members()
			s, code = bitset.Of(size, members)
			expect(t, m.set(), "Of", s, code)
			slices.Reverse(members)
			s, code = bitset.Of(size, append(members, members...))
			expect(t, m.set(), "Of with repetitions", s, code)
		}
		for _, i := range []int{size, size + 1, -1, math.MaxInt, math.MinInt} {
			s, code = bitset.Of(size, []int{i})
			refuse(t, api.ErrRange, "Of", s, code)
		}
	}
	for _, size := range []int{-1, -64, 4097, 4160, math.MaxInt, math.MinInt} {
		s, code := bitset.New(size)
		refuse(t, api.ErrRange, "New", s, code)
		s, code = bitset.All(size)
		refuse(t, api.ErrRange, "All", s, code)
		s, code = bitset.Of(size, nil)
		refuse(t, api.ErrRange, "Of", s, code)
		s, code = bitset.Of(size, []int{0})
		refuse(t, api.ErrRange, "Of", s, code)
	}
}

func TestP3_2Members(t *testing.T) {
	for _, size := range sizes {
		for _, m := range models(size) {
			s := m.set()
			for i := 0; i < size; i += 1 + size/200 {
				if bitset.Has(s, i) != m[i] {
					t.Fatalf("Has(%s, %d) = %t", m.text(), i, !m[i])
				}
				changed := slices.Clone(m)
				changed[i] = true
				with, code := bitset.With(s, i)
				expect(t, changed.set(), "With", with, code)
				changed[i] = false
				without, code := bitset.Without(s, i)
				expect(t, changed.set(), "Without", without, code)
			}
			for _, i := range []int{-1, -64, size, size + 64, math.MaxInt, math.MinInt} {
				if bitset.Has(s, i) {
					t.Errorf("Has(%s, %d)", m.text(), i)
				}
				with, code := bitset.With(s, i)
				refuse(t, api.ErrRange, "With", with, code)
				without, code := bitset.Without(s, i)
				refuse(t, api.ErrRange, "Without", without, code)
			}
		}
	}
}

func TestP3_2Broken(t *testing.T) {
	for _, s := range broken() {
		for _, i := range []int{0, 8, -1, 4096} {
			if bitset.Has(s, i) {
				t.Errorf("Has(%v, %d)", s, i)
			}
			with, code := bitset.With(s, i)
			refuse(t, api.ErrArgument, "With", with, code)
			without, code := bitset.Without(s, i)
			refuse(t, api.ErrArgument, "Without", without, code)
		}
	}
}

// merge returns the model of the integers for which in holds.
func merge(a, b model, in func(x, y bool) bool) model {
	m := make(model, len(a))
	for i := range m {
		m[i] = in(a[i], b[i])
	}
	return m
}

func TestP3_3Operations(t *testing.T) {
	for _, size := range sizes {
		list := models(size)
		for _, a := range list {
			s, code := bitset.Complement(a.set())
			expect(t, merge(a, a, func(x, _ bool) bool { return !x }).set(), "Complement", s, code)
			for _, b := range list {
				s, code = bitset.Union(a.set(), b.set())
				expect(t, merge(a, b, func(x, y bool) bool { return x || y }).set(), "Union", s, code)
				s, code = bitset.Intersect(a.set(), b.set())
				expect(t, merge(a, b, func(x, y bool) bool { return x && y }).set(), "Intersect", s, code)
				s, code = bitset.Minus(a.set(), b.set())
				expect(t, merge(a, b, func(x, y bool) bool { return x && !y }).set(), "Minus", s, code)
			}
		}
	}
}

func TestP3_3Errors(t *testing.T) {
	for _, operation := range []func(a, b api.Set) (api.Set, api.Code){bitset.Union, bitset.Intersect, bitset.Minus} {
		for _, bad := range broken() {
			for _, other := range []api.Set{{}, {Size: 8, Words: []uint64{1}}, bad} {
				s, code := operation(bad, other)
				refuse(t, api.ErrArgument, "operation", s, code)
				s, code = operation(other, bad)
				refuse(t, api.ErrArgument, "operation", s, code)
			}
		}
		for i, size := range sizes {
			a, b := models(size)[1].set(), models(sizes[(i+1)%len(sizes)])[0].set()
			s, code := operation(a, b)
			refuse(t, api.ErrMismatch, "operation", s, code)
			s, code = operation(b, a)
			refuse(t, api.ErrMismatch, "operation", s, code)
		}
	}
	for _, bad := range broken() {
		s, code := bitset.Complement(bad)
		refuse(t, api.ErrArgument, "Complement", s, code)
	}
}

func TestP3_4Comparisons(t *testing.T) {
	for _, size := range sizes {
		list := models(size)
		for _, a := range list {
			for _, b := range list {
				subset := !slices.Contains(merge(a, b, func(x, y bool) bool { return x && !y }), true)
				if got := bitset.Subset(a.set(), b.set()); got != subset {
					t.Fatalf("Subset(%s, %s) = %t", a.text(), b.text(), got)
				}
				if got := bitset.Equal(a.set(), b.set()); got != slices.Equal(a, b) {
					t.Fatalf("Equal(%s, %s) = %t", a.text(), b.text(), got)
				}
			}
			other := append(slices.Clone(a), false)
			if size < api.MaxSpace && (bitset.Equal(a.set(), other.set()) || bitset.Subset(a.set(), other.set()) || bitset.Subset(other.set(), a.set())) {
				t.Errorf("%s and %s are compared although their sizes differ", a.text(), other.text())
			}
		}
	}
}

func TestP3_4Members(t *testing.T) {
	for _, size := range sizes {
		for _, m := range models(size) {
			s, members := m.set(), m.members()
			if bitset.Count(s) != len(members) || !slices.Equal(bitset.Members(s), members) {
				t.Fatalf("Count or Members of %s", m.text())
			}
			least := -1
			if len(members) > 0 {
				least = members[0]
			}
			if bitset.Least(s) != least || bitset.Next(s, -1) != least || bitset.Next(s, -5) != least || bitset.Next(s, math.MinInt) != least {
				t.Fatalf("Least or Next of %s", m.text())
			}
			next := -1
			for i := size - 1; i >= 0; i-- {
				if got := bitset.Next(s, i); got != next {
					t.Fatalf("Next(%s, %d) = %d, want %d", m.text(), i, got, next)
				}
				if m[i] {
					next = i
				}
			}
			for _, i := range []int{size, size + 1, math.MaxInt - 1, math.MaxInt} {
				if got := bitset.Next(s, i); got != -1 {
					t.Fatalf("Next(%s, %d) = %d", m.text(), i, got)
				}
			}
		}
	}
}

func TestP3_4Broken(t *testing.T) {
	for _, bad := range broken() {
		if bitset.Equal(bad, bad) || bitset.Equal(bad, api.Set{}) || bitset.Subset(bad, bad) || bitset.Subset(api.Set{}, bad) || bitset.Subset(bad, api.Set{}) {
			t.Errorf("%v is compared", bad)
		}
		if bitset.Count(bad) != 0 || len(bitset.Members(bad)) != 0 || bitset.Least(bad) != -1 {
			t.Errorf("%v has members", bad)
		}
		for _, i := range []int{math.MinInt, -1, 0, 7, 4096, math.MaxInt} {
			if bitset.Next(bad, i) != -1 {
				t.Errorf("Next(%v, %d)", bad, i)
			}
		}
	}
}

func TestP3_5TextAndParse(t *testing.T) {
	for _, size := range sizes {
		for _, m := range models(size) {
			text := bitset.Text(m.set())
			if text != m.text() {
				t.Fatalf("Text = %q, want %q", text, m.text())
			}
			s, code := bitset.Parse(text)
			expect(t, m.set(), "Parse", s, code)
		}
	}
	for _, bad := range broken() {
		if text := bitset.Text(bad); text != "" {
			t.Errorf("Text(%v) = %q", bad, text)
		}
	}
}

func TestP3_5ParseErrors(t *testing.T) {
	for _, text := range []string{
		"", "{", "}", "/", "{}", "{}/", "{/8", "}/8", "{}8", "{}/ 8", "{} /8", "{}/08", "{}/+8", "{}/-1", "{}/-0", "{}/4097", "{}/8 ", " {}/8", "{}/8\n", "{}/8}/8",
		"{}/9223372036854775808", "{}/18446744073709551624", "{}/8a", "{}/0x8", "{}/1_0", "0}/8", "{0/8", "{{0}/8", "{0}}/8", "{8}/8", "{0}/0", "{-1}/8", "{-0}/8",
		"{+1}/8", "{00}/8", "{01}/8", "{a}/8", "{3, 0}/8", "{3, 3}/8", "{0,3}/8", "{0,  3}/8", "{0 , 3}/8", "{0 3}/8", "{0, }/8", "{, 0}/8", "{, }/8", "{ 0}/8", "{0 }/8",
		"{0, 3}/8/8", "{0, 9223372036854775808}/8", "{18446744073709551616}/8", "{0, 3}/3", "{1_0}/64", "{٣}/8", "[0]/8", "{0, 1}/8x", "{0, 3, 8}/8",
	} {
		s, code := bitset.Parse(text)
		refuse(t, api.ErrSyntax, "Parse("+text+")", s, code)
	}
}

func TestP3_6Algebra(t *testing.T) {
	do := func(s api.Set, code api.Code) api.Set {
		t.Helper()
		if code != api.OK {
			t.Fatalf("code %d", code)
		}
		return s
	}
	or := func(a, b api.Set) api.Set { return do(bitset.Union(a, b)) }
	and := func(a, b api.Set) api.Set { return do(bitset.Intersect(a, b)) }
	not := func(a api.Set) api.Set { return do(bitset.Complement(a)) }
	for _, size := range []int{0, 1, 8, 64, 65, 130, 4096} {
		list := models(size)
		for i, m := range list {
			for j, n := range list {
				a, b, c := m.set(), n.set(), list[(i+j)%len(list)].set()
				laws := []bool{
					bitset.Equal(and(a, or(b, c)), or(and(a, b), and(a, c))),
					bitset.Equal(or(a, and(b, c)), and(or(a, b), or(a, c))),
					bitset.Equal(not(or(a, b)), and(not(a), not(b))),
					bitset.Equal(not(and(a, b)), or(not(a), not(b))),
					bitset.Equal(not(not(a)), a),
					bitset.Equal(do(bitset.Minus(a, b)), and(a, not(b))),
					bitset.Count(or(a, b))+bitset.Count(and(a, b)) == bitset.Count(a)+bitset.Count(b),
					bitset.Subset(a, b) == bitset.Equal(or(a, b), b),
					bitset.Equal(do(bitset.Of(size, bitset.Members(a))), a),
				}
				if k := slices.Index(laws, false); k >= 0 {
					t.Fatalf("law %d fails for sets of size %d", k, size)
				}
			}
		}
	}
}

func TestP3_6Walk(t *testing.T) {
	for _, size := range sizes {
		for _, m := range models(size) {
			s := m.set()
			var visited []int
			for i := bitset.Least(s); i != -1; i = bitset.Next(s, i) {
				visited = append(visited, i)
			}
			if !slices.Equal(visited, m.members()) {
				t.Fatalf("a walk through %s visits %v", m.text(), visited)
			}
		}
	}
}

func TestExamples(t *testing.T) {
	s, code := bitset.Of(8, []int{3, 0, 3})
	expect(t, api.Set{Size: 8, Words: []uint64{9}}, "Of", s, code)
	if bitset.Text(s) != "{0, 3}/8" || bitset.Next(s, 0) != 3 || bitset.Next(s, 3) != -1 || bitset.Next(s, -5) != 0 {
		t.Error("Text or Next")
	}
	c, code := bitset.Complement(s)
	expect(t, api.Set{Size: 8, Words: []uint64{246}}, "Complement", c, code)
	s, code = bitset.Of(65, []int{64})
	expect(t, api.Set{Size: 65, Words: []uint64{0, 1}}, "Of", s, code)
}

// TestMemory changes all results in place and expects that the arguments do not change.
func TestMemory(t *testing.T) {
	for _, size := range sizes {
		for _, m := range models(size) {
			a, b := m.set(), models(size)[1].set()
			results := make([]api.Set, 6)
			results[0], _ = bitset.With(a, size/2)
			results[1], _ = bitset.Without(a, size/2)
			results[2], _ = bitset.Union(a, b)
			results[3], _ = bitset.Intersect(a, b)
			results[4], _ = bitset.Minus(a, b)
			results[5], _ = bitset.Complement(a)
			for _, r := range results {
				words := r.Words[:cap(r.Words)]
				for i := range words {
					words[i] ^= 0x5a5a5a5a5a5a5a5a
				}
			}
			if !same(a, m.set()) || !same(b, models(size)[1].set()) {
				t.Fatalf("an argument of size %d is shared or changed", size)
			}
		}
	}
}
