package pdg

import (
	"maps"
	"slices"

	"keyhole/api"
	"keyhole/cfg"
	"keyhole/outline"
)

// collector collects the dependences of a valid program.
type collector struct {
	program api.Flat
	places  []outline.Place
	found   map[api.Dep]bool
}

// graphOf returns the dependence graph of a valid program.
func graphOf(f api.Flat) api.Pdg {
	c := collector{f, outline.Places(f), map[api.Dep]bool{}}
	c.data()
	c.control()
	c.releases()
	c.time()
	return api.Pdg{Steps: len(c.places), Vars: len(f.Vars), Deps: slices.SortedFunc(maps.Keys(c.found), compare)}
}

// add adds a dependence, if it is not there yet.
func (c collector) add(from, to int, kind api.DepKind) {
	c.found[api.Dep{From: from, To: to, Kind: kind}] = true
}

// start returns the node that stands for the value of a variable at the start.
func (c collector) start(v int) int {
	return len(c.places) + v
}

// data adds the dependences of terms on the definitions that reach them.
func (c collector) data() {
	g, _ := cfg.Build(c.program)
	reaching, _ := cfg.Reaching(c.program, g)
	for node, n := range g.Nodes {
		// The entry and the exit have no step, and a Loop reads its term at its NodeHead.
		if n.At < 0 || n.Kind == api.NodeEnter {
			continue
		}
		read := outline.Variables(c.places[n.At].Term)
		for _, definition := range reaching[node] {
			if slices.Contains(read, c.variable(definition)) {
				c.add(definition, n.At, api.DepData)
			}
		}
	}
}

// variable returns the variable of a definition.
func (c collector) variable(definition int) int {
	if definition < len(c.places) {
		return c.places[definition].Var
	}
	return definition - c.start(0)
}

// control adds the dependences of steps on the step around them, and of loops on themselves.
func (c collector) control() {
	for at, s := range c.places {
		if s.Around != outline.None {
			c.add(s.Around, at, api.DepControl)
		}
		if s.Do == api.Loop {
			c.add(at, at, api.DepControl)
		}
	}
}

// releases adds the dependences of steps on the inputs of the hatches that they release.
func (c collector) releases() {
	for at, s := range c.places {
		if s.Do != api.Release {
			continue
		}
		for _, v := range outline.Variables(c.program.Hatches[s.N].Term) {
			c.add(c.start(v), at, api.DepRelease)
		}
	}
}

// time adds the dependences of the running time.
func (c collector) time() {
	if outline.IsSettled(c.program) {
		return
	}
	for at, s := range c.places {
		if !outline.HasOneTime(s.Step) {
			c.add(at, c.start(len(c.program.Vars)), api.DepControl)
		}
	}
}
