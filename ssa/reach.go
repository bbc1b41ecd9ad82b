package ssa

import (
	"slices"

	"keyhole/api"
)

// What is known of the version of a variable, if it is not a version.
const (
	unknown = -1 - iota // no path has been followed yet
	mixed               // different versions meet
)

// reach has the versions of the variables that reach the nodes of a program by the phis and definitions of a form.
type reach struct {
	program
	form api.Ssa
	in   [][]int // of each node and variable: the version that is valid for its terms
}

// reach returns the versions that reach the nodes by the form s, in which only the uses and arguments may be wrong.
func (p program) reach(s api.Ssa) reach {
	r := reach{program: p, form: s, in: make([][]int, len(p.nodes))}
	count := len(p.flat.Vars)
	r.in[0] = slices.Clone(s.Of[:count]) // the initial values
	for node := 1; node < len(r.in); node++ {
		r.in[node] = slices.Repeat([]int{unknown}, count)
	}
	// What is known only rises, from unknown to a version and to mixed, so the order of the nodes does not matter.
	for isChanged := true; isChanged; {
		isChanged = false
		for node := 1; node < len(r.in); node++ {
			if versions := r.into(node); !slices.Equal(versions, r.in[node]) {
				r.in[node] = versions
				isChanged = true
			}
		}
	}
	return r
}

// into returns what is known of each variable at a node other than the entry.
func (r reach) into(node int) []int {
	versions := make([]int, len(r.flat.Vars))
	for v := range versions {
		versions[v] = r.common(node, v)
	}
	for _, phi := range r.form.Nodes[node].Phis {
		versions[phi.Var] = phi.Version
	}
	return versions
}

// common returns the version with which a variable leaves all nodes before a node, if they agree.
func (r reach) common(node, v int) int {
	version := unknown
	for _, from := range r.before[node] {
		switch out := r.out(from, v); {
		case out == unknown || out == version:
		case version == unknown:
			version = out
		default:
			return mixed
		}
	}
	return version
}

// out returns what is known of a variable behind a node.
func (r reach) out(node, v int) int {
	if r.defines[node] == v {
		return r.form.Nodes[node].Def
	}
	return r.in[node][v]
}
