package lattice_test

import (
	"math"
	"math/rand"
	"slices"
	"strings"
	"testing"

	"keyhole/api"
	"keyhole/lattice"
)

// model is the relation "below or equal" as a matrix.
type model [][]bool

// modelOf returns the reflexive and transitive closure of the pairs, by a walk from each level.
func modelOf(size int, order [][2]int) model {
	m := make(model, size)
	for a := range m {
		m[a] = make([]bool, size)
		m.walk(a, a, order)
	}
	return m
}

func (m model) walk(from, to int, order [][2]int) {
	if m[from][to] {
		return
	}
	m[from][to] = true
	for _, pair := range order {
		if pair[0] == to {
			m.walk(from, pair[1], order)
		}
	}
}

// join returns all least upper bounds of a and b.
func (m model) join(a, b int) []int {
	var bounds, least []int
	for c := range m {
		if m[a][c] && m[b][c] {
			bounds = append(bounds, c)
		}
	}
	for _, c := range bounds {
		if !slices.ContainsFunc(bounds, func(d int) bool { return !m[c][d] }) {
			least = append(least, c)
		}
	}
	return least
}

// converse returns the relation "above or equal".
func (m model) converse() model {
	c := make(model, len(m))
	for a := range m {
		for b := range m {
			c[a] = append(c[a], m[b][a])
		}
	}
	return c
}

// code returns the code with which New answers.
func (m model) code() api.Code {
	for a := range m {
		for b := range a {
			if m[a][b] && m[b][a] {
				return api.ErrOrder
			}
		}
	}
	for a := range m {
		for b := range m {
			if len(m.join(a, b)) != 1 || len(m.converse().join(a, b)) != 1 {
				return api.ErrMissing
			}
		}
	}
	return api.OK
}

// covers returns the pairs of levels without a third level between them.
func (m model) covers() [][2]int {
	var pairs [][2]int
	for a := range m {
		for b := range m {
			between := slices.ContainsFunc(numbers(len(m)), func(c int) bool { return c != a && c != b && m[a][c] && m[c][b] })
			if a != b && m[a][b] && !between {
				pairs = append(pairs, [2]int{a, b})
			}
		}
	}
	return pairs
}

// longest returns the number of levels of a longest chain that begins with a.
func (m model) longest(a int) int {
	most := 0
	for b := range m {
		if a != b && m[a][b] {
			most = max(most, m.longest(b))
		}
	}
	return most + 1
}

// numbers returns the numbers from 0 to n-1.
func numbers(n int) []int {
	list := make([]int, n)
	for i := range list {
		list[i] = i
	}
	return list
}

// names returns size names, of which the last ones have the greatest length.
func names(size int) []string {
	list := make([]string, size)
	for i := range list {
		list[i] = string(rune('a'+i)) + strings.Repeat("z9", i)[:i]
	}
	return list
}

// cover is a lattice by its size and pairs.
type cover struct {
	size  int
	order [][2]int
}

// product returns the product of two lattices, in which the level a * y.size + b stands for the pair of a and b.
func product(x, y cover) cover {
	p := cover{size: x.size * y.size}
	for a := range x.size {
		for _, pair := range y.order {
			p.order = append(p.order, [2]int{a*y.size + pair[0], a*y.size + pair[1]})
		}
	}
	for _, pair := range x.order {
		for b := range y.size {
			p.order = append(p.order, [2]int{pair[0]*y.size + b, pair[1]*y.size + b})
		}
	}
	return p
}

// chain returns a chain of levels.
func chain(size int) cover {
	c := cover{size: size}
	for a := range size - 1 {
		c.order = append(c.order, [2]int{a, a + 1})
	}
	return c
}

// antichain returns levels that cannot be compared, between a bottom and a top.
func antichain(size int) cover {
	c := cover{size: size + 2}
	for a := range size {
		c.order = append(c.order, [2]int{0, a + 1}, [2]int{a + 1, size + 1})
	}
	return c
}

// samples returns lattices of many forms.
func samples() []cover {
	square := product(chain(2), chain(2))
	list := []cover{
		square, product(square, chain(2)), product(square, chain(3)), product(chain(3), chain(3)), product(chain(3), chain(4)), product(chain(2), chain(6)),
		{5, [][2]int{{0, 1}, {1, 2}, {2, 4}, {0, 3}, {3, 4}}},
		{6, [][2]int{{0, 1}, {1, 2}, {2, 5}, {0, 3}, {3, 4}, {4, 5}}},
		{4, [][2]int{{0, 0}, {0, 1}, {0, 1}, {1, 2}, {0, 2}, {2, 3}, {0, 3}, {3, 3}}},
		{10, [][2]int{{0, 1}, {0, 2}, {0, 3}, {1, 4}, {1, 5}, {2, 4}, {2, 6}, {3, 5}, {3, 6}, {4, 7}, {5, 7}, {6, 7}, {7, 8}, {8, 9}}},
	}
	for size := 1; size <= api.MaxLevels; size++ {
		list = append(list, chain(size))
	}
	for size := 1; size <= api.MaxLevels-2; size++ {
		list = append(list, antichain(size))
	}
	source := rand.New(rand.NewSource(1))
	for _, c := range list[:len(list):len(list)] {
		to := source.Perm(c.size)
		mixed := cover{size: c.size}
		for _, i := range source.Perm(len(c.order)) {
			mixed.order = append(mixed.order, [2]int{to[c.order[i][0]], to[c.order[i][1]]})
		}
		list = append(list, mixed)
	}
	return list
}

// eachLattice runs a check on every sample with its model.
func eachLattice(t *testing.T, check func(l *lattice.Lattice, m model)) {
	t.Helper()
	for _, c := range samples() {
		l, code := lattice.New(names(c.size), c.order)
		if code != api.OK || l == nil {
			t.Fatalf("New(%v) returns code %d", c, code)
		}
		check(l, modelOf(c.size, c.order))
	}
}

func TestP5_1AllSmallOrders(t *testing.T) {
	for size := 1; size <= 4; size++ {
		var pairs [][2]int
		for a := range size {
			for b := range size {
				if a != b {
					pairs = append(pairs, [2]int{a, b})
				}
			}
		}
		for bits := range 1 << len(pairs) {
			var order [][2]int
			for i, pair := range pairs {
				if bits>>i&1 == 1 {
					order = append(order, pair)
				}
			}
			checkNew(t, size, order)
		}
	}
}

func TestP5_1RandomOrders(t *testing.T) {
	source := rand.New(rand.NewSource(2))
	met := map[api.Code]int{}
	for range 20000 {
		size := 1 + source.Intn(api.MaxLevels)
		to := source.Perm(size)
		var order [][2]int
		for range source.Intn(3 * size) {
			a, b := source.Intn(size), source.Intn(size)
			if source.Intn(40) > 0 {
				a, b = min(a, b), max(a, b)
			}
			order = append(order, [2]int{to[a], to[b]})
		}
		if source.Intn(2) == 0 {
			for a := range size {
				order = append(order, [2]int{to[0], a}, [2]int{a, to[size-1]})
			}
		}
		met[checkNew(t, size, order)]++
	}
	for _, code := range []api.Code{api.OK, api.ErrOrder, api.ErrMissing} {
		if met[code] < 500 {
			t.Errorf("only %d orders have the code %d", met[code], code)
		}
	}
}

// checkNew compares the code of New with that of the model, and returns it.
func checkNew(t *testing.T, size int, order [][2]int) api.Code {
	t.Helper()
	l, code := lattice.New(names(size), order)
	if want := modelOf(size, order).code(); code != want || (l != nil) != (want == api.OK) {
		t.Fatalf("New(%d levels, %v) = %v, %d, want code %d", size, order, l, code, want)
	}
	return code
}

func TestP5_1Errors(t *testing.T) {
	cycle, out := [2]int{1, 0}, [2]int{0, 2}
	for _, c := range []struct {
		names []string
		order [][2]int
		code  api.Code
	}{
		{nil, nil, api.ErrLimit},
		{nil, [][2]int{{0, 0}}, api.ErrLimit},
		{names(13), chain(13).order, api.ErrLimit},
		{make([]string, 13), nil, api.ErrLimit},
		{names(12), chain(12).order, api.OK},
		{[]string{"a", "A"}, [][2]int{out}, api.ErrName},
		{[]string{"a", "a", "A"}, [][2]int{out}, api.ErrDuplicate},
		{[]string{"a", "A", "a"}, [][2]int{out}, api.ErrName},
		{[]string{"A", "A"}, nil, api.ErrName},
		{[]string{"a", "b", "a"}, [][2]int{{0, 3}}, api.ErrDuplicate},
		{[]string{"a", "a"}, [][2]int{{0, 1}}, api.ErrDuplicate},
		{names(2), [][2]int{{0, 1}, out}, api.ErrRange},
		{names(2), [][2]int{{0, 1}, {2, 0}}, api.ErrRange},
		{names(2), [][2]int{{0, 1}, {-1, 0}}, api.ErrRange},
		{names(2), [][2]int{{0, 1}, {0, -1}}, api.ErrRange},
		{names(2), [][2]int{{0, 1}, {2, 2}}, api.ErrRange},
		{names(2), [][2]int{{0, 1}, {0, math.MaxInt}, {math.MinInt, 0}}, api.ErrRange},
		{names(2), [][2]int{{0, 64}}, api.ErrRange},
		{names(2), [][2]int{{0, 1}, cycle, out}, api.ErrRange},
		{names(2), [][2]int{{0, 1}, cycle}, api.ErrOrder},
		{names(3), [][2]int{{0, 1}, cycle}, api.ErrOrder},
		{names(3), [][2]int{{0, 1}, {1, 2}, {2, 0}}, api.ErrOrder},
		{names(3), [][2]int{{0, 1}}, api.ErrMissing},
		{names(3), [][2]int{{0, 1}, {0, 2}}, api.ErrMissing},
		{names(3), [][2]int{{1, 0}, {2, 0}}, api.ErrMissing},
		{names(6), [][2]int{{0, 1}, {0, 2}, {1, 3}, {1, 4}, {2, 3}, {2, 4}, {3, 5}, {4, 5}}, api.ErrMissing},
	} {
		if l, code := lattice.New(c.names, c.order); code != c.code || (l != nil) != (c.code == api.OK) {
			t.Errorf("New(%q, %v) = %v, %d, want code %d", c.names, c.order, l, code, c.code)
		}
	}
}

func TestP5_2Below(t *testing.T) {
	eachLattice(t, func(l *lattice.Lattice, m model) {
		for a := range m {
			for b := range m {
				if l.Below(a, b) != m[a][b] {
					t.Fatalf("Below(%d, %d) is %t", a, b, !m[a][b])
				}
			}
			for _, out := range []int{len(m), -1, 64, math.MaxInt, math.MinInt} {
				if l.Below(a, out) || l.Below(out, a) || l.Below(out, out) {
					t.Fatalf("Below of %d and %d", a, out)
				}
			}
		}
		if l.Size() != len(m) {
			t.Errorf("Size is %d, want %d", l.Size(), len(m))
		}
	})
}

func TestP5_3Bounds(t *testing.T) {
	eachLattice(t, func(l *lattice.Lattice, m model) {
		for a := range m {
			for b := range m {
				join, code := l.Join(a, b)
				if code != api.OK || !slices.Equal(m.join(a, b), []int{join}) {
					t.Fatalf("Join(%d, %d) = %d, %d", a, b, join, code)
				}
				meet, code := l.Meet(a, b)
				if code != api.OK || !slices.Equal(m.converse().join(a, b), []int{meet}) {
					t.Fatalf("Meet(%d, %d) = %d, %d", a, b, meet, code)
				}
			}
			for _, out := range []int{len(m), -1, 64, math.MaxInt, math.MinInt} {
				for _, pair := range [][2]int{{a, out}, {out, a}, {out, out}} {
					join, joinCode := l.Join(pair[0], pair[1])
					meet, meetCode := l.Meet(pair[0], pair[1])
					if join != 0 || joinCode != api.ErrRange || meet != 0 || meetCode != api.ErrRange {
						t.Fatalf("Join or Meet of %v: %d, %d, %d, %d", pair, join, joinCode, meet, meetCode)
					}
				}
			}
		}
	})
}

func TestP5_4Laws(t *testing.T) {
	eachLattice(t, func(l *lattice.Lattice, m model) {
		do := func(level int, code api.Code) int {
			if code != api.OK {
				t.Fatalf("code %d", code)
			}
			return level
		}
		join := func(a, b int) int { return do(l.Join(a, b)) }
		meet := func(a, b int) int { return do(l.Meet(a, b)) }
		for a := range m {
			for b := range m {
				for c := range m {
					laws := []bool{
						join(a, a) == a && meet(a, a) == a,
						join(a, b) == join(b, a) && meet(a, b) == meet(b, a),
						join(join(a, b), c) == join(a, join(b, c)) && meet(meet(a, b), c) == meet(a, meet(b, c)),
						join(a, meet(a, b)) == a && meet(a, join(a, b)) == a,
						l.Below(a, b) == (join(a, b) == b) && l.Below(a, b) == (meet(a, b) == a),
					}
					if k := slices.Index(laws, false); k >= 0 {
						t.Fatalf("law %d fails for %d, %d, %d in %v", k, a, b, c, m)
					}
				}
			}
		}
	})
}

func TestP5_5Extremes(t *testing.T) {
	source := rand.New(rand.NewSource(3))
	eachLattice(t, func(l *lattice.Lattice, m model) {
		for a := range m {
			if !m[a][l.Top()] || !m[l.Bottom()][a] {
				t.Fatalf("Top %d or Bottom %d in %v", l.Top(), l.Bottom(), m)
			}
		}
		for _, none := range [][]int{nil, {}} {
			if join, code := l.JoinAll(none); code != api.OK || join != l.Bottom() {
				t.Fatalf("JoinAll of none = %d, %d", join, code)
			}
		}
		for size := 1; size < 30; size++ {
			levels := make([]int, size)
			for i := range levels {
				levels[i] = source.Intn(len(m))
			}
			want := levels[0]
			for _, level := range levels {
				want = m.join(want, level)[0]
			}
			if join, code := l.JoinAll(levels); code != api.OK || join != want {
				t.Fatalf("JoinAll(%v) = %d, %d, want %d", levels, join, code, want)
			}
			levels[source.Intn(size)] = []int{-1, len(m), math.MaxInt, math.MinInt}[size%4]
			if join, code := l.JoinAll(levels); code != api.ErrRange || join != 0 {
				t.Fatalf("JoinAll(%v) = %d, %d", levels, join, code)
			}
		}
		if join, code := l.JoinAll(numbers(len(m))); code != api.OK || join != l.Top() {
			t.Fatalf("JoinAll of all levels = %d, %d", join, code)
		}
	})
}

func TestP5_6Covers(t *testing.T) {
	eachLattice(t, func(l *lattice.Lattice, m model) {
		covers := l.Covers()
		if !slices.Equal(covers, m.covers()) {
			t.Fatalf("Covers = %v, want %v", covers, m.covers())
		}
		again, code := lattice.New(names(len(m)), covers)
		if code != api.OK {
			t.Fatalf("New of the covers %v returns code %d", covers, code)
		}
		for a := range m {
			for b := range m {
				if again.Below(a, b) != l.Below(a, b) {
					t.Fatalf("the covers %v make another lattice", covers)
				}
			}
		}
		if got := l.Height(); got != m.longest(l.Bottom()) {
			t.Fatalf("Height = %d, want %d", got, m.longest(l.Bottom()))
		}
	})
}

func TestP5_7Names(t *testing.T) {
	for _, name := range []string{"a", "z", "a0", "z9", "secret", "abcdefghijkl", "a12345678901", "low"} {
		l, code := lattice.New([]string{"b", name}, [][2]int{{0, 1}})
		if code != api.OK {
			t.Errorf("New with the name %q returns code %d", name, code)
			continue
		}
		if got, code := l.Name(1); got != name || code != api.OK {
			t.Errorf("Name(1) = %q, %d, want %q", got, code, name)
		}
		if level, ok := l.Find(name); level != 1 || !ok {
			t.Errorf("Find(%q) = %d, %t", name, level, ok)
		}
	}
	for _, name := range []string{"", " ", "A", "0", "0a", "aB", "a_b", "a.b", "a-b", "a b", " a", "a ", "a\n", "a\x00", "é", "aé", "a\xff", "`", "{", "a/", "a:", "a`", "a{", "abcdefghijklm", strings.Repeat("a", 5000)} {
		for _, list := range [][]string{{name}, {"b", name}, {name, "b"}} {
			if l, code := lattice.New(list, [][2]int{{0, len(list) - 1}}); code != api.ErrName || l != nil {
				t.Errorf("New with the name %q returns code %d", name, code)
			}
		}
	}
	eachLattice(t, func(l *lattice.Lattice, m model) {
		for i, name := range names(len(m)) {
			got, code := l.Name(i)
			level, ok := l.Find(name)
			if got != name || code != api.OK || level != i || !ok {
				t.Fatalf("Name(%d) = %q, Find(%q) = %d, %t", i, got, name, level, ok)
			}
			for _, other := range []string{"", name + "a", name + " ", strings.ToUpper(name), " " + name, name[:len(name)-1] + "-", "y"} {
				if level, ok := l.Find(other); level != 0 || ok {
					t.Fatalf("Find(%q) = %d, %t", other, level, ok)
				}
			}
		}
		for _, i := range []int{len(m), -1, math.MaxInt, math.MinInt} {
			if name, code := l.Name(i); name != "" || code != api.ErrRange {
				t.Fatalf("Name(%d) = %q, %d", i, name, code)
			}
		}
	})
}

func TestP5_8Nil(t *testing.T) {
	var l *lattice.Lattice
	if l.Size() != 0 || l.Below(0, 0) || l.Top() != 0 || l.Bottom() != 0 || len(l.Covers()) != 0 || l.Height() != 0 {
		t.Error("a nil Lattice has levels")
	}
	for _, name := range []string{"", "a", "low"} {
		if level, ok := l.Find(name); level != 0 || ok {
			t.Errorf("Find(%q) = %d, %t", name, level, ok)
		}
	}
	for _, i := range []int{0, 1, -1, math.MaxInt} {
		name, nameCode := l.Name(i)
		join, joinCode := l.Join(i, 0)
		meet, meetCode := l.Meet(0, i)
		all, allCode := l.JoinAll([]int{i})
		if name != "" || join != 0 || meet != 0 || all != 0 {
			t.Errorf("a nil Lattice has levels: %q, %d, %d, %d", name, join, meet, all)
		}
		for _, code := range []api.Code{nameCode, joinCode, meetCode, allCode} {
			if code != api.ErrArgument {
				t.Errorf("a method of a nil Lattice returns code %d", code)
			}
		}
	}
	if join, code := l.JoinAll(nil); join != 0 || code != api.ErrArgument {
		t.Errorf("JoinAll of none = %d, %d", join, code)
	}
}

func TestExamples(t *testing.T) {
	order := [][2]int{{0, 1}, {0, 2}, {1, 3}, {2, 3}}
	l, code := lattice.New([]string{"low", "left", "right", "high"}, order)
	if code != api.OK {
		t.Fatalf("New returns code %d", code)
	}
	join, _ := l.Join(1, 2)
	meet, _ := l.Meet(1, 2)
	if join != 3 || meet != 0 || !l.Below(0, 3) || l.Below(1, 2) || !slices.Equal(l.Covers(), order) || l.Height() != 3 {
		t.Errorf("Join %d, Meet %d, Covers %v, Height %d", join, meet, l.Covers(), l.Height())
	}
	if _, code := lattice.New([]string{"a", "b"}, nil); code != api.ErrMissing {
		t.Errorf("two levels without pairs: code %d", code)
	}
	if _, code := lattice.New([]string{"a", "b"}, [][2]int{{0, 1}, {1, 0}}); code != api.ErrOrder {
		t.Errorf("two levels below each other: code %d", code)
	}
	if l, code := lattice.New([]string{"a"}, nil); code != api.OK || l.Height() != 1 || len(l.Covers()) != 0 {
		t.Errorf("one level: code %d", code)
	}
}

// TestMemory changes arguments and results in place and expects that the lattice stays as it is.
func TestMemory(t *testing.T) {
	list, order, levels := names(4), [][2]int{{0, 1}, {1, 2}, {2, 3}}, []int{2, 1}
	l, code := lattice.New(list, order)
	if code != api.OK {
		t.Fatalf("New returns code %d", code)
	}
	if _, code := l.JoinAll(levels); code != api.OK || !slices.Equal(levels, []int{2, 1}) {
		t.Error("JoinAll changes its argument")
	}
	if !slices.Equal(list, names(4)) || !slices.Equal(order, chain(4).order) {
		t.Error("New changes its arguments")
	}
	clear(list)
	clear(order)
	clear(l.Covers())
	if name, _ := l.Name(3); name != names(4)[3] || !l.Below(1, 2) || !slices.Equal(l.Covers(), chain(4).order) || l.Height() != 4 {
		t.Error("the lattice shares memory with an argument or a result")
	}
}
