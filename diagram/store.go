package diagram

import (
	"cmp"
	"math"
	"slices"

	"keyhole/api"
)

// end is the variable of leaves: they stand behind all others.
const end = api.MaxBit

// room is the number of nodes and leaves that a result of the layers may have.
const room = api.MaxDiagram + api.MaxLeaf

// patience is the number of triples that Choose combines before it goes another way.
const patience = 1 << 20

// nothing is the value of what has not been chosen. It is no value of a diagram of the layers.
const nothing = math.MinInt

// Store has the nodes of diagrams over the same variables, each of them once, so that equal functions have equal references. A leaf is a node with the variable end and the value in Low. References are indices of nodes.
type Store struct {
	nodes []api.Fork
	known map[api.Fork]int
	most  int  // number of nodes that the store may have
	full  bool // a node had no place
}

// Load returns a store that has the nodes of diagrams, of which each one must stand behind those to which it refers, and the references to their roots.
func Load(l ...api.Mtbdd) (*Store, []int) {
	size := 0
	for _, a := range l {
		size += len(a.Leaves) + len(a.Nodes)
	}
	s := newStore(size)
	var roots []int
	for _, a := range l {
		roots = append(roots, s.load(a))
	}
	return s, roots
}

// newStore returns an empty store, with place for so many nodes at first.
func newStore(size int) *Store {
	return &Store{nodes: make([]api.Fork, 0, size), known: make(map[api.Fork]int, size), most: math.MaxInt}
}

// load adds the nodes of a and returns the reference to its root.
func (s *Store) load(a api.Mtbdd) int {
	places := make([]int, 0, len(a.Leaves)+len(a.Nodes))
	for _, value := range a.Leaves {
		places = append(places, s.leaf(value))
	}
	for _, f := range a.Nodes {
		places = append(places, s.node(f.Var, places[f.Low], places[f.High]))
	}
	return places[a.Root]
}

// OfTable returns the canonical diagram over vars variables, at most MaxTruth, whose values for all assignments in their order stand in a list.
func OfTable(vars int, values []int) (api.Mtbdd, api.Code) {
	s := newStore(len(values))
	var build func(v int, part []int) int
	build = func(v int, part []int) int {
		if v == vars {
			return s.leaf(part[0])
		}
		half := len(part) / 2
		low := build(v+1, part[:half])
		return s.node(v, low, build(v+1, part[half:]))
	}
	return s.Diagram(vars, build(0, values))
}

// find returns the reference to a node, which is added if it is new.
func (s *Store) find(f api.Fork) int {
	if at, ok := s.known[f]; ok {
		return at
	}
	if len(s.nodes) >= s.most {
		s.full = true
		return 0
	}
	s.nodes = append(s.nodes, f)
	s.known[f] = len(s.nodes) - 1
	return len(s.nodes) - 1
}

// leaf returns the reference to a value.
func (s *Store) leaf(value int) int {
	return s.find(api.Fork{Var: end, Low: value})
}

// node returns the reference to what is low if v is false and high if v is true.
func (s *Store) node(v, low, high int) int {
	if low == high {
		return low
	}
	return s.find(api.Fork{Var: v, Low: low, High: high})
}

// split returns what at, which asks for no variable before v, is if v is false and if it is true.
func (s *Store) split(at, v int) (low, high int) {
	if s.nodes[at].Var != v {
		return at, at
	}
	return s.nodes[at].Low, s.nodes[at].High
}

// rebuild returns what becomes of at if the parts that replace knows are replaced.
func (s *Store) rebuild(at int, replace func(at int) (int, bool)) int {
	rebuilt := map[int]int{}
	var visit func(at int) int
	visit = func(at int) int {
		if other, ok := replace(at); ok {
			return other
		}
		if other, ok := rebuilt[at]; ok {
			return other
		}
		f := s.nodes[at]
		low := visit(f.Low)
		other := s.node(f.Var, low, visit(f.High))
		rebuilt[at] = other
		return other
	}
	return visit(at)
}

// Change returns the reference to the function that has the value op(x) where at has the value x.
func (s *Store) Change(op func(x int) int, at int) int {
	return s.rebuild(at, func(at int) (int, bool) {
		if f := s.nodes[at]; f.Var == end {
			return s.leaf(op(f.Low)), true
		}
		return 0, false
	})
}

// Restrict returns the reference to what at is with the variable i set to v.
func (s *Store) Restrict(at, i int, v bool) int {
	return s.rebuild(at, func(at int) (int, bool) {
		if s.nodes[at].Var < i {
			return 0, false
		}
		low, high := s.split(at, i)
		if v {
			return high, true
		}
		return low, true
	})
}

// Combine returns the reference to the function that has the value op(x, y) where a has the value x and b the value y. It gives up as soon as this takes more new nodes than a result may have.
func (s *Store) Combine(op func(x, y int) int, a, b int) int {
	s.most = len(s.nodes) + room
	return s.combine(op, a, b)
}

// combine is Combine with the limit that the store has.
func (s *Store) combine(op func(x, y int) int, a, b int) int {
	type pair struct{ a, b int32 }
	combined := make(map[pair]int32, min(len(s.nodes), room))
	var visit func(a, b int) int
	visit = func(a, b int) int {
		v := min(s.nodes[a].Var, s.nodes[b].Var)
		if v == end {
			return s.leaf(op(s.nodes[a].Low, s.nodes[b].Low))
		}
		key := pair{int32(a), int32(b)}
		if at, ok := combined[key]; ok || s.full {
			return int(at)
		}
		lowA, highA := s.split(a, v)
		lowB, highB := s.split(b, v)
		low := visit(lowA, lowB)
		at := s.node(v, low, visit(highA, highB))
		combined[key] = int32(at)
		return at
	}
	return visit(a, b)
}

// Choose returns the reference to the function that has the value of a where c is 1 and the value of b where c is 0. It gives up like Combine.
func (s *Store) Choose(c, a, b int) int {
	s.most = len(s.nodes) + room
	if at, done := s.choose(c, a, b); done {
		return at
	}
	return s.chooseInParts(c, a, b)
}

// choose goes through the triples of references, and is not done if there are too many of them.
func (s *Store) choose(c, a, b int) (at int, done bool) {
	type triple struct{ c, a, b int32 }
	chosen := map[triple]int32{}
	tired := false
	var visit func(c, a, b int) int
	visit = func(c, a, b int) int {
		if a == b || s.nodes[c].Var == end && s.nodes[c].Low == 1 {
			return a
		}
		if s.nodes[c].Var == end {
			return b
		}
		key := triple{int32(c), int32(a), int32(b)}
		if at, ok := chosen[key]; ok || tired || s.full {
			return int(at)
		}
		v := min(s.nodes[c].Var, s.nodes[a].Var, s.nodes[b].Var)
		lowC, highC := s.split(c, v)
		lowA, highA := s.split(a, v)
		lowB, highB := s.split(b, v)
		low := visit(lowC, lowA, lowB)
		high := visit(highC, highA, highB)
		if tired {
			return 0
		}
		at := s.node(v, low, high)
		chosen[key] = int32(at)
		tired = len(chosen) > patience
		return at
	}
	at = visit(c, a, b)
	return at, !tired
}

// chooseInParts goes through pairs alone, of which there are never as many as there may be triples: first it blots out a where c is 0 and b where c is 1, then it joins both.
func (s *Store) chooseInParts(c, a, b int) int {
	where := func(value int) func(x, y int) int {
		return func(x, y int) int {
			if x == value {
				return y
			}
			return nothing
		}
	}
	s.most = math.MaxInt
	yes := s.combine(where(1), c, a)
	no := s.combine(where(0), c, b)
	return s.Combine(func(x, y int) int {
		if x == nothing {
			return y
		}
		return x
	}, yes, no)
}

// Diagram returns the canonical diagram over the variables from 0 to vars - 1 of what at refers to. The code is ErrLimit if it is too large.
func (s *Store) Diagram(vars, at int) (api.Mtbdd, api.Code) {
	if s.full {
		return api.Mtbdd{}, api.ErrLimit
	}
	leaves, inner := s.finished(at)
	if len(leaves) > api.MaxLeaf || len(inner) > api.MaxDiagram {
		return api.Mtbdd{}, api.ErrLimit
	}
	slices.SortFunc(leaves, func(a, b int) int { return cmp.Compare(s.nodes[a].Low, s.nodes[b].Low) })
	a := api.Mtbdd{Vars: vars}
	places := make([]int, len(s.nodes))
	for i, leaf := range leaves {
		places[leaf] = i
		a.Leaves = append(a.Leaves, s.nodes[leaf].Low)
	}
	for i, node := range inner {
		places[node] = len(leaves) + i
		f := s.nodes[node]
		a.Nodes = append(a.Nodes, api.Fork{Var: f.Var, Low: places[f.Low], High: places[f.High]})
	}
	a.Root = places[at]
	return a, api.OK
}

// finished returns the leaves and the other nodes that at reaches, in the order in which a depth-first walk finishes them.
func (s *Store) finished(at int) (leaves, inner []int) {
	met := make([]bool, len(s.nodes))
	var visit func(at int)
	visit = func(at int) {
		if met[at] {
			return
		}
		met[at] = true
		f := s.nodes[at]
		if f.Var == end {
			leaves = append(leaves, at)
			return
		}
		visit(f.Low)
		visit(f.High)
		inner = append(inner, at)
	}
	visit(at)
	return leaves, inner
}
