package lower

import (
	"strconv"

	"keyhole/api"
)

// memory has the variables of a flat program.
type memory struct {
	vars     []api.Var
	names    map[string]bool
	counters map[counter]int  // the variables of for statements
	spare    map[bounds][]int // variables that every statement may use for what it computes
	used     map[bounds]int   // how many of them the statement uses that is translated now
}

type bounds struct {
	low, high int
}

// counter is the variable of a for statement. Statements that are not inside each other may share it.
type counter struct {
	name string
	bounds
}

func newMemory() memory {
	return memory{names: map[string]bool{}, counters: map[counter]int{}, spare: map[bounds][]int{}, used: map[bounds]int{}}
}

// input adds an input. Its name is not changed, even if it is too long.
func (m *memory) input(name string, kind api.Kind, b bounds) {
	m.names[name] = true
	m.vars = append(m.vars, api.Var{Name: name, Kind: kind, Low: b.low, High: b.high})
}

// local adds a local variable, and returns its index.
func (m *memory) local(name string, b bounds, init int) int {
	m.vars = append(m.vars, api.Var{Name: m.unique(name), Low: b.low, High: b.high, Init: init})
	return len(m.vars) - 1
}

// unique returns a name that is new and not too long. It is the name that is wanted, if possible.
func (m *memory) unique(wanted string) string {
	name := wanted
	for n := 2; m.names[name] || len(name) > api.MaxFlatName; n++ {
		end := "_" + strconv.Itoa(n)
		name = wanted[:min(len(wanted), api.MaxFlatName-len(end))] + end
	}
	m.names[name] = true
	return name
}

// counter returns the variable of a for statement.
func (m *memory) counter(name string, b bounds) int {
	key := counter{name, b}
	if _, ok := m.counters[key]; !ok {
		m.counters[key] = m.local(name, b, b.low)
	}
	return m.counters[key]
}

// temporary returns a variable that nothing else uses until the next statement begins.
func (m *memory) temporary(b bounds) int {
	if m.used[b] == len(m.spare[b]) {
		m.spare[b] = append(m.spare[b], m.local("t_"+strconv.Itoa(len(m.vars)), b, b.low))
	}
	m.used[b]++
	return m.spare[b][m.used[b]-1]
}

// nextStatement lets temporary variables be used again.
func (m *memory) nextStatement() {
	clear(m.used)
}
