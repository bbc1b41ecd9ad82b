package cfg_test

import (
	"slices"

	"keyhole/api"
	"keyhole/flat"
)

// place is a step, and where it stands: the step around it and the next step of its list, or -1 where there is none.
type place struct {
	api.Step
	around, next int
}

// places returns the steps in preorder.
func places(f api.Flat) []place {
	var all []place
	var add func(list []api.Step, around int)
	add = func(list []api.Step, around int) {
		for i, s := range list {
			at := len(all)
			all = append(all, place{s, around, -1})
			add(s.Then, at)
			add(s.Else, at)
			if i < len(list)-1 {
				all[at].next = len(all)
			}
		}
	}
	add(f.Body, -1)
	return all
}

// firstNode returns the index of the first node of a step; for the number of steps it is the exit.
func firstNode(all []place, at int) int {
	loops := 0
	for _, p := range all[:at] {
		if p.Do == api.Loop {
			loops++
		}
	}
	return 1 + at + loops
}

// end returns the node to which the end of a list leads that stands directly in a step, or in the program.
func end(all []place, around int) int {
	switch {
	case around < 0:
		return firstNode(all, len(all))
	case all[around].Do == api.Loop:
		return firstNode(all, around) + 1
	}
	return after(all, around)
}

// after returns the node after a step.
func after(all []place, at int) int {
	if next := all[at].next; next >= 0 {
		return firstNode(all, next)
	}
	return end(all, all[at].around)
}

// firstOf returns the first node of a list that stands directly in a step, where its first step, if it has one, has the number at.
func firstOf(all []place, list []api.Step, around, at int) int {
	if len(list) == 0 {
		return end(all, around)
	}
	return firstNode(all, at)
}

// nodesModel returns the nodes of a valid program by the table of the chapter.
func nodesModel(f api.Flat) []api.Node {
	all := places(f)
	nodes := []api.Node{{Kind: api.NodeEntry, At: -1, Next: firstOf(all, f.Body, -1, 0), Other: -1}}
	for at, p := range all {
		switch p.Do {
		case api.If:
			otherAt := at + 1 + flat.Size(api.Flat{Body: p.Then})
			nodes = append(nodes, api.Node{Kind: api.NodeTest, At: at, Next: firstOf(all, p.Then, at, at+1), Other: firstOf(all, p.Else, at, otherAt)})
		case api.Loop:
			nodes = append(nodes, api.Node{Kind: api.NodeEnter, At: at, Next: firstNode(all, at) + 1, Other: -1})
			nodes = append(nodes, api.Node{Kind: api.NodeHead, At: at, Next: firstOf(all, p.Then, at, at+1), Other: after(all, at)})
		default:
			nodes = append(nodes, api.Node{Kind: api.NodeStep, At: at, Next: after(all, at), Other: -1})
		}
	}
	return append(nodes, api.Node{Kind: api.NodeExit, At: -1, Next: -1, Other: -1})
}

// isFormedModel reports whether g is formed.
func isFormedModel(g api.Cfg) bool {
	n := len(g.Nodes)
	if n < 2 || n > 2050 || g.Nodes[0].Kind != api.NodeEntry || g.Nodes[n-1].Kind != api.NodeExit {
		return false
	}
	for i, node := range g.Nodes {
		inner := node.Kind == api.NodeStep || node.Kind == api.NodeTest || node.Kind == api.NodeEnter || node.Kind == api.NodeHead
		two := node.Kind == api.NodeTest || node.Kind == api.NodeHead
		if i > 0 && i < n-1 && !inner {
			return false
		}
		if inner && node.At < 0 || !inner && node.At != -1 {
			return false
		}
		if i == n-1 && node.Next != -1 || i < n-1 && (node.Next < 1 || node.Next > n-1) {
			return false
		}
		if two && (node.Other < 1 || node.Other > n-1) || !two && node.Other != -1 {
			return false
		}
	}
	return true
}

// edgesModel returns the edges of a graph that is formed.
func edgesModel(g api.Cfg) [][2]int {
	var edges [][2]int
	for a, node := range g.Nodes {
		for b := range g.Nodes {
			if node.Next == b || node.Other == b {
				edges = append(edges, [2]int{a, b})
			}
		}
	}
	return edges
}

// runner executes the steps of a program by their structure, and notes the nodes that a walk passes, and which definition each variable has at each of them.
type runner struct {
	f       api.Flat
	all     []place
	values  []int
	initial []int
	path    []int
	last    []int
	then    [][]int // the definitions at each node of the path
	ends    int     // of loops by their limit
}

// runModel runs a valid program with inputs that it accepts.
func runModel(f api.Flat, in api.Inputs) *runner {
	r := &runner{f: f, all: places(f)}
	lists := map[api.Kind][]int{api.Secret: in.Secret, api.Public: in.Public, api.Random: in.Random}
	for i, v := range f.Vars {
		value := v.Init
		if v.Kind != api.Local {
			value, lists[v.Kind] = lists[v.Kind][0], lists[v.Kind][1:]
		}
		r.values = append(r.values, value)
		r.last = append(r.last, len(r.all)+i)
	}
	r.initial = slices.Clone(r.values)
	r.pass(0)
	r.list(f.Body, 0)
	r.pass(firstNode(r.all, len(r.all)))
	return r
}

func (r *runner) pass(node int) {
	r.path = append(r.path, node)
	r.then = append(r.then, slices.Clone(r.last))
}

// list executes the steps of a list, of which the first one has the number at.
func (r *runner) list(list []api.Step, at int) {
	for _, s := range list {
		r.step(s, at)
		at += flat.Size(api.Flat{Body: []api.Step{s}})
	}
}

func (r *runner) value(values []int, t api.Term) int {
	value, code := flat.Eval(r.f.Vars, values, t)
	if code != api.OK {
		panic(code)
	}
	return value
}

func (r *runner) step(s api.Step, at int) {
	node := firstNode(r.all, at)
	r.pass(node)
	switch s.Do {
	case api.Assign:
		r.assign(s.Var, at, r.value(r.values, s.Term))
	case api.Release:
		h := r.f.Hatches[s.N]
		r.assign(s.Var, at, max(h.Low, min(h.High, r.value(r.initial, h.Term))))
	case api.If:
		if r.value(r.values, s.Term) != 0 {
			r.list(s.Then, at+1)
		} else {
			r.list(s.Else, at+1+flat.Size(api.Flat{Body: s.Then}))
		}
	case api.Loop:
		for i := 0; ; i++ {
			r.pass(node + 1)
			if i == s.N {
				r.ends++
				return
			}
			if r.value(r.values, s.Term) == 0 {
				return
			}
			r.list(s.Then, at+1)
		}
	}
}

func (r *runner) assign(v, at, number int) {
	r.values[v] = max(r.f.Vars[v].Low, min(r.f.Vars[v].High, number))
	r.last[v] = at
}

// reachingModel returns the definitions that reach each node, found backwards from the node.
func reachingModel(f api.Flat, g api.Cfg) [][]int {
	all := places(f)
	result := make([][]int, len(g.Nodes))
	previous := make([][]int, len(g.Nodes))
	for _, edge := range edgesModel(g) {
		previous[edge[1]] = append(previous[edge[1]], edge[0])
	}
	for node := range g.Nodes {
		for v := range f.Vars {
			result[node] = append(result[node], definitions(all, g, previous, node, v)...)
		}
		slices.Sort(result[node])
	}
	return result
}

// definitions returns the definitions of the variable v that reach the node.
func definitions(all []place, g api.Cfg, previous [][]int, node, v int) []int {
	var found []int
	met := make([]bool, len(g.Nodes))
	queue := []int{node}
	for i := 0; i < len(queue); i++ {
		for _, from := range previous[queue[i]] {
			if met[from] {
				continue
			}
			met[from] = true
			n := g.Nodes[from]
			switch {
			case n.Kind == api.NodeEntry:
				found = append(found, len(all)+v)
			case (all[n.At].Do == api.Assign || all[n.At].Do == api.Release) && all[n.At].Var == v:
				found = append(found, n.At)
			default:
				queue = append(queue, from)
			}
		}
	}
	return found
}
