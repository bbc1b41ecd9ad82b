package dominance_test

import (
	"math/rand"
	"slices"
	"testing"

	"keyhole/api"
	"keyhole/cfg"
	"keyhole/dominance"
	"keyhole/flat"
)

// steps returns at most so many steps, some of which have steps inside.
func steps(source *rand.Rand, most, depth int) []api.Step {
	var list []api.Step
	for range source.Intn(most + 1) {
		s := api.Step{Do: api.Wait, Cost: source.Intn(5)}
		if kind := source.Intn(5); depth > 1 && kind < 2 {
			s = api.Step{Do: api.If, Then: steps(source, most-1, depth-1), Else: steps(source, most-1, depth-1)}
		} else if depth > 1 && kind < 4 {
			s = api.Step{Do: api.Loop, N: source.Intn(3), Then: steps(source, most-1, depth-1)}
		}
		list = append(list, s)
	}
	return list
}

// dependences returns the pairs of nodes that the structure of a program makes control dependent.
func dependences(t *testing.T, f api.Flat) [][2]int {
	var pairs [][2]int
	at := 0
	// inside adds the steps of a list that stands directly in a step whose node decides about them, or in none.
	var inside func(list []api.Step, node int)
	inside = func(list []api.Step, node int) {
		for _, s := range list {
			first, code := cfg.NodeAt(f, at)
			if code != api.OK {
				t.Fatalf("NodeAt %d has code %d", at, code)
			}
			at++
			nodes, decides := []int{first}, first
			if s.Do == api.Loop {
				nodes, decides = []int{first, first + 1}, first+1
				pairs = append(pairs, [2]int{decides, decides})
			}
			for _, b := range nodes {
				if node >= 0 {
					pairs = append(pairs, [2]int{node, b})
				}
			}
			inside(s.Then, decides)
			inside(s.Else, decides)
		}
	}
	inside(f.Body, -1)
	slices.SortFunc(pairs, func(x, y [2]int) int { return slices.Compare(x[:], y[:]) })
	return pairs
}

func TestP21_8Programs(t *testing.T) {
	source := rand.New(rand.NewSource(218))
	valid, total := 0, 0
	for i := range 6000 {
		f := api.Flat{Body: steps(source, 1+i%6, 1+i%5)}
		if flat.Check(f) != api.OK {
			continue
		}
		g, code := cfg.Build(f)
		if code != api.OK {
			t.Fatalf("Build has code %d", code)
		}
		edges, code := cfg.Graph(g)
		if code != api.OK {
			t.Fatalf("Graph has code %d", code)
		}
		want := dependences(t, f)
		pairs, code := dominance.Control(edges, edges.Nodes-1)
		if !slices.Equal(pairs, want) || code != api.OK {
			t.Fatalf("Control = %v, %d, want %v: %+v", pairs, code, want, f)
		}
		valid++
		total += len(pairs)
	}
	if valid < 4000 || total < 50000 {
		t.Errorf("%d programs, %d pairs", valid, total)
	}
}

// TestP21_8Examples has lists without steps, and the steps of a list in a list.
func TestP21_8Examples(t *testing.T) {
	wait := api.Step{Do: api.Wait}
	for i, c := range []struct {
		body []api.Step
		want [][2]int
	}{
		{nil, nil}, {[]api.Step{wait, wait}, nil}, {[]api.Step{{Do: api.If}}, nil}, {[]api.Step{{Do: api.Loop}}, [][2]int{{2, 2}}},
		{[]api.Step{{Do: api.If, Then: []api.Step{wait}, Else: []api.Step{wait, wait}}, wait}, [][2]int{{1, 2}, {1, 3}, {1, 4}}},
		{[]api.Step{{Do: api.Loop, N: 1, Then: []api.Step{{Do: api.Loop, N: 1, Then: []api.Step{wait}}, wait}}}, [][2]int{{2, 2}, {2, 3}, {2, 4}, {2, 6}, {4, 4}, {4, 5}}},
		{[]api.Step{{Do: api.If, Else: []api.Step{{Do: api.Loop, N: 1}, {Do: api.If, Then: []api.Step{wait}}}}}, [][2]int{{1, 2}, {1, 3}, {1, 4}, {3, 3}, {4, 5}}},
	} {
		f := api.Flat{Body: c.body}
		g, _ := cfg.Build(f)
		edges, _ := cfg.Graph(g)
		if pairs, code := dominance.Control(edges, edges.Nodes-1); !slices.Equal(pairs, c.want) || code != api.OK {
			t.Errorf("%d: Control = %v, %d, want %v", i, pairs, code, c.want)
		}
		if want := dependences(t, f); !slices.Equal(c.want, want) {
			t.Errorf("%d: the structure gives %v, want %v", i, want, c.want)
		}
	}
}
