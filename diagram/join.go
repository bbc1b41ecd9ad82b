package diagram

import "keyhole/api"

// join makes one diagram of several ones. It remembers what it has made of which references.
type join struct {
	store  *Store
	op     func(values []int) int
	parts  []api.Mtbdd
	values []int          // room for the argument of op
	name   []byte         // room for the name of references
	nexts  [][]int        // for each variable, room for the references to which it leads
	joined map[string]int // by the names of references
}

// Join returns the canonical diagram that has the value op(l) where diagrams over the same variables have the values l. op must not keep l. No diagram may be larger than the layers allow; the code is ErrLimit if the result is.
func Join(op func(l []int) int, parts ...api.Mtbdd) (api.Mtbdd, api.Code) {
	size := 0
	for _, a := range parts {
		size = max(size, len(a.Leaves)+len(a.Nodes))
	}
	j := join{store: newStore(size), op: op, parts: parts, joined: make(map[string]int, size)}
	j.store.most = room
	j.values = make([]int, len(parts))
	j.nexts = make([][]int, parts[0].Vars)
	roots := make([]int, len(parts))
	for i, a := range parts {
		roots[i] = a.Root
	}
	at := j.visit(roots)
	return j.store.Diagram(parts[0].Vars, at)
}

// visit returns the reference to what is made of the parts at their references.
func (j *join) visit(at []int) int {
	v := end
	for i, a := range j.parts {
		v = min(v, variable(a, at[i]))
	}
	if v == end {
		for i, a := range j.parts {
			j.values[i] = a.Leaves[at[i]]
		}
		return j.store.leaf(j.op(j.values))
	}
	j.rename(at)
	if made, ok := j.joined[string(j.name)]; ok || j.store.full {
		return made
	}
	low, high := j.follow(at, v)
	made := j.visit(low)
	made = j.store.node(v, made, j.visit(high))
	j.rename(at)
	j.joined[string(j.name)] = made
	return made
}

// rename makes the name of references: two bytes are enough for each, as no diagram has as many as 2^16 leaves and nodes.
func (j *join) rename(at []int) {
	j.name = j.name[:0]
	for _, i := range at {
		j.name = append(j.name, byte(i), byte(i>>8))
	}
}

// follow returns to which references others lead if v is false and if it is true. They stay until it is called again with v; what is visited below v does not ask for v.
func (j *join) follow(at []int, v int) (low, high []int) {
	if j.nexts[v] == nil {
		j.nexts[v] = make([]int, 2*len(at))
	}
	low, high = j.nexts[v][:len(at)], j.nexts[v][len(at):]
	for i, a := range j.parts {
		low[i], high[i] = split(a, at[i], v)
	}
	return low, high
}
