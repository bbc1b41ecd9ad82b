package diagram

import (
	"math/rand"
	"slices"
	"testing"

	"keyhole/api"
	"keyhole/sample"
)

// weighted is a function that tells apart what it is applied to.
func weighted(l []int) int {
	sum := 0
	for _, x := range l {
		sum = 3*sum + x
	}
	return sum
}

func TestJoin(t *testing.T) {
	r := rand.New(rand.NewSource(2))
	for range 2000 {
		w := sample.SomeWorld(r.Intn)
		var parts []api.Mtbdd
		for range 1 + r.Intn(5) {
			values := 1 + r.Intn(4)
			table := sample.Function(w, r.Intn, func() int { return r.Intn(values) - 1 })
			parts = append(parts, sample.Reduced(w.Vars, w.Over, table))
		}
		got, code := Join(weighted, parts...)
		if want := sample.Joined(weighted, parts...); !sample.IsSame(got, want) || code != api.OK {
			t.Fatalf("%v: %v, %d, want %v", parts, got, code, want)
		}
	}
}

// TestJoinRoom is about results at the limits, and beyond.
func TestJoinRoom(t *testing.T) {
	a, b := sample.Same(0, 22, 10), sample.Same(11, 22, 10)
	if _, code := Join(weighted, a, b, sample.Chain(10)); code != api.ErrLimit {
		t.Errorf("code %d", code)
	}
	for _, nodes := range []int{api.MaxDiagram - 20, api.MaxDiagram, api.MaxDiagram + 1} {
		part := sample.Sized(nodes-1, sample.Range(1, 40, 2)...)
		got, code := Join(func(l []int) int { return l[0] * l[1] }, sample.Chain(0), part)
		want := api.OK
		if nodes > api.MaxDiagram {
			want = api.ErrLimit
		}
		if code != want || code == api.OK && len(got.Nodes) != nodes {
			t.Errorf("%d nodes of %d, %d", len(got.Nodes), nodes, code)
		}
	}
	// There are many paths, and few references.
	odd := sample.Chain(0)
	for i := 1; i < 40; i++ {
		odd, _ = Join(func(l []int) int { return (l[0] + l[1]) % 2 }, odd, sample.Chain(i))
	}
	if len(odd.Nodes) != 79 {
		t.Errorf("%d nodes", len(odd.Nodes))
	}
}

// TestJoinNames has diagrams of which the references have two bytes, and many references differ in one of them alone.
func TestJoinNames(t *testing.T) {
	l := make([]int, 1<<12)
	for i := range l {
		l[i] = i
	}
	a, _ := OfTable(12, l)
	slices.Reverse(l)
	b, _ := OfTable(12, l)
	got, code := Join(func(l []int) int { return l[0] - l[1] }, a, b)
	if code != api.OK || len(got.Leaves) != 1<<12 {
		t.Fatalf("%d leaves, %d", len(got.Leaves), code)
	}
	for i, x := range Table(got) {
		if x != 2*i-4095 {
			t.Fatalf("the value %d is %d", i, x)
		}
	}
}
