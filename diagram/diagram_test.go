package diagram

import (
	"math/rand"
	"testing"

	"keyhole/api"
	"keyhole/sample"
)

// TestChooseInParts compares both ways to choose, of which the second one is otherwise taken for very many triples alone.
func TestChooseInParts(t *testing.T) {
	r := rand.New(rand.NewSource(1))
	for range 1000 {
		w := sample.SomeWorld(r.Intn)
		draw := func(values int) api.Mtbdd {
			table := sample.Function(w, r.Intn, func() int { return r.Intn(values) })
			return sample.Reduced(w.Vars, w.Over, table)
		}
		c, a, b := draw(2), draw(5), draw(5)
		s, roots := Load(c, a, b)
		at, done := s.choose(roots[0], roots[1], roots[2])
		if other := s.chooseInParts(roots[0], roots[1], roots[2]); !done || other != at {
			t.Fatalf("%v, %v, %v: %d and %d, %t", c, a, b, at, other, done)
		}
		got, code := s.Diagram(w.Vars, at)
		want := sample.Joined(func(l []int) int { return l[2-l[0]] }, c, a, b)
		if code != api.OK || !sample.IsSame(got, want) {
			t.Fatalf("%v, %v, %v: %v, %d", c, a, b, got, code)
		}
	}
}

// TestChooseInPartsLimit is about a result that is too large: it can be told from the new nodes, before there are too many pairs.
func TestChooseInPartsLimit(t *testing.T) {
	part := func(first int) api.Mtbdd { return sample.Beginning(first, 1<<10, sample.Range(first, 30, 3)...) }
	s, roots := Load(part(0), part(1), part(2))
	at := s.chooseInParts(roots[0], roots[1], roots[2])
	if _, code := s.Diagram(api.MaxBit, at); code != api.ErrLimit || !s.full {
		t.Errorf("code %d, full: %t", code, s.full)
	}
}

// TestStops is about operations that must stop when the result has too many nodes: otherwise these would need millions of them.
func TestStops(t *testing.T) {
	a, b := sample.Same(0, 22, 10), sample.Same(11, 22, 10)
	size := func(operate func(s *Store, roots []int) int) int {
		s, roots := Load(sample.Chain(10), a, b)
		if _, code := s.Diagram(api.MaxBit, operate(s, roots)); code != api.ErrLimit {
			t.Errorf("code %d", code)
		}
		return len(s.nodes)
	}
	combined := size(func(s *Store, roots []int) int {
		return s.Combine(func(x, y int) int { return 2*x + y }, roots[1], roots[2])
	})
	chosen := size(func(s *Store, roots []int) int {
		return s.Choose(roots[1], roots[2], s.Change(func(x int) int { return x + 7 }, roots[2]))
	})
	if combined > 40000 || chosen > 40000 {
		t.Errorf("%d and %d nodes", combined, chosen)
	}
}

// TestChooseInPartsRoom is about parts that are much larger than what is chosen in the end: c keeps other bits in mind than a and b, which differ only where c chooses a.
func TestChooseInPartsRoom(t *testing.T) {
	where := func(value int) api.Mtbdd { return sample.Joined(func(l []int) int { return value }, sample.Chain()) }
	beside := func(a, b api.Mtbdd) api.Mtbdd {
		return sample.Joined(func(l []int) int { return l[2-l[0]] }, sample.Chain(14), a, b)
	}
	c, a, b := beside(where(1), sample.Same(0, 15, 7)), beside(where(0), sample.Same(7, 22, 7)), beside(where(1), sample.Same(7, 22, 7))
	s, roots := Load(c, a, b)
	s.most = len(s.nodes) + room
	if at := s.chooseInParts(roots[0], roots[1], roots[2]); at != roots[1] || s.full || len(s.nodes) < 2*room {
		t.Errorf("not a, but %v; %d nodes", s.nodes[at], len(s.nodes))
	}
}
