package ssa

import "keyhole/api"

// needed reports of each version of the right form s whether an output or a decision may depend on it.
func (p program) needed(s api.Ssa) []bool {
	needed := make([]bool, len(s.Of))
	sources := make([][]int, len(s.Of)) // the versions of which each version is made
	var open []int
	need := func(versions []int) {
		for _, version := range versions {
			if !needed[version] {
				needed[version] = true
				open = append(open, version)
			}
		}
	}
	for _, n := range s.Nodes {
		for _, phi := range n.Phis {
			sources[phi.Version] = phi.Args
		}
		if n.Def != none {
			sources[n.Def] = used(n)
		} else {
			// What does not go into a definition goes into an output, or decides where a run goes on.
			need(used(n))
		}
	}
	for len(open) > 0 {
		version := open[len(open)-1]
		open = open[:len(open)-1]
		need(sources[version])
	}
	return needed
}

// used returns the versions that a node reads.
func used(n api.SsaNode) []int {
	var versions []int
	for _, use := range n.Uses {
		versions = append(versions, use.Version)
	}
	return versions
}
