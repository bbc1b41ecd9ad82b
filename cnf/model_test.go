package cnf_test

import (
	"fmt"
	"math"
	"math/big"
	"regexp"
	"slices"
	"strconv"
	"strings"

	"keyhole/api"
	"keyhole/sample"
)

var (
	isModel   = sample.IsModel
	isClauses = sample.IsSameList
)

// literalBefore reports whether a comes before b in literal order.
func literalBefore(a, b int) bool {
	x, y := big.NewInt(int64(a)), big.NewInt(int64(b))
	if order := x.CmpAbs(y); order != 0 {
		return order < 0
	}
	return x.Cmp(y) < 0
}

// clauseBefore reports whether a comes before b in clause order.
func clauseBefore(a, b []int) bool {
	for i := range b {
		if i == len(a) {
			return true
		}
		if a[i] != b[i] {
			return literalBefore(a[i], b[i])
		}
	}
	return false
}

// canonicalModel returns the canonical form by sets and insertion.
func canonicalModel(clauses [][]int) [][]int {
	var list [][]int
	known := map[string]bool{}
	for _, clause := range clauses {
		own := map[int]bool{}
		for _, lit := range clause {
			own[lit] = true
		}
		dropped := false
		var sorted []int
		for lit := range own {
			if lit != 0 && lit != math.MinInt && own[-lit] {
				dropped = true
			}
			sorted = inserted(sorted, lit, literalBefore)
		}
		if key := fmt.Sprint(sorted); !dropped && !known[key] {
			known[key] = true
			list = inserted(list, sorted, clauseBefore)
		}
	}
	return list
}

// inserted returns an ordered list with a further element.
func inserted[E any](list []E, e E, before func(a, b E) bool) []E {
	at := 0
	for at < len(list) && before(list[at], e) {
		at++
	}
	return slices.Insert(list, at, e)
}

func isCnf(a, b api.Cnf) bool {
	return a.Vars == b.Vars && a.Keep == b.Keep && isClauses(a.Clauses, b.Clauses)
}

func isWithin(clauses [][]int, vars int) bool {
	for _, lit := range slices.Concat(clauses...) {
		if lit == 0 || lit > vars || lit < -vars {
			return false
		}
	}
	return true
}

func checkModel(c api.Cnf) api.Code {
	switch {
	case c.Vars < 0, c.Keep < 0, c.Keep > c.Vars:
		return api.ErrArgument
	case c.Vars > 20000, len(c.Clauses) > 60000:
		return api.ErrLimit
	case !isWithin(c.Clauses, c.Vars):
		return api.ErrRange
	case !isClauses(c.Clauses, canonicalModel(c.Clauses)):
		return api.ErrOrder
	}
	return api.OK
}

// residualModel returns the canonical form of what is left if lit is true.
func residualModel(clauses [][]int, lit int) [][]int {
	var left [][]int
	for _, clause := range clauses {
		var own []int
		dropped := false
		for _, other := range clause {
			dropped = dropped || other == lit
			if other != -lit {
				own = append(own, other)
			}
		}
		if !dropped {
			left = append(left, own)
		}
	}
	return canonicalModel(left)
}

// always is a literal that is true in the implications below, and its negative one is false.
const always = 1 << 40

// implication returns the clause of "all of these imply that one", if it is not always true.
func implication(from []int, to int) [][]int {
	var clause []int
	if to == always {
		return nil
	}
	if to != -always {
		clause = append(clause, to)
	}
	for _, lit := range from {
		if lit == -always {
			return nil
		}
		if lit != always {
			clause = append(clause, -lit)
		}
	}
	return [][]int{clause}
}

// ofBddModel returns the formula of a valid diagram by the implications of the chapter.
func ofBddModel(b api.Bdd) api.Cnf {
	name := func(at int) int {
		if at > 1 {
			return b.Vars + (at - 2) + 1
		}
		return always * (2*at - 1)
	}
	clauses := implication(nil, name(b.Root))
	for i, f := range b.Nodes {
		n, x, high, low := name(i+2), f.Var+1, name(f.High), name(f.Low)
		clauses = slices.Concat(clauses, implication([]int{n, x}, high), implication([]int{n, -x}, low), implication([]int{high, x}, n), implication([]int{low, -x}, n))
	}
	return api.Cnf{Vars: b.Vars + len(b.Nodes), Keep: b.Vars, Clauses: canonicalModel(clauses)}
}

// ofMtbddModel returns the formula of a valid diagram with words of a width.
func ofMtbddModel(a api.Mtbdd, words [][]bool, width int) api.Cnf {
	leaf := func(i int) int { return width + a.Vars + i + 1 }
	node := func(i int) int { return leaf(len(a.Leaves) + i) }
	name := func(at int) int {
		if at < len(a.Leaves) {
			return leaf(at)
		}
		return node(at - len(a.Leaves))
	}
	clauses := [][]int{{name(a.Root)}}
	for i, f := range a.Nodes {
		x := width + f.Var + 1
		clauses = slices.Concat(clauses, implication([]int{node(i), x}, name(f.High)), implication([]int{node(i), -x}, name(f.Low)))
	}
	for i, value := range a.Leaves {
		if value < 0 {
			clauses = append(clauses, []int{-leaf(i)})
			continue
		}
		for k := range width {
			bit := -k - 1
			if words[value][k] {
				bit = k + 1
			}
			clauses = append(clauses, implication([]int{leaf(i)}, bit)...)
		}
	}
	return api.Cnf{Vars: width + a.Vars + len(a.Leaves) + len(a.Nodes), Keep: width, Clauses: canonicalModel(clauses)}
}

// printModel returns the text of a formula.
func printModel(c api.Cnf) string {
	lines := []string{fmt.Sprintf("p cnf %d %d", c.Vars, len(c.Clauses)), fmt.Sprintf("c keep %d", c.Keep)}
	for _, clause := range c.Clauses {
		lines = append(lines, strings.Trim(fmt.Sprint(append(slices.Clone(clause), 0)), "[]"))
	}
	return strings.Join(lines, "\n") + "\n"
}

var form = regexp.MustCompile(`^p cnf (0|[1-9][0-9]{0,8}) (0|[1-9][0-9]{0,8})\nc keep (0|[1-9][0-9]{0,8})\n((?:(?:-?[1-9][0-9]{0,8} )*0\n)*)$`)

// parseModel returns the formula with a text.
func parseModel(s string) (api.Cnf, api.Code) {
	parts := form.FindStringSubmatch(s)
	if parts == nil {
		return api.Cnf{}, api.ErrSyntax
	}
	number := func(s string) int {
		n, err := strconv.Atoi(s)
		if err != nil {
			panic(err)
		}
		return n
	}
	c := api.Cnf{Vars: number(parts[1]), Keep: number(parts[3])}
	for line := range strings.Lines(parts[4]) {
		var clause []int
		for _, word := range strings.Fields(line) {
			clause = append(clause, number(word))
		}
		c.Clauses = append(c.Clauses, clause[:len(clause)-1])
	}
	if number(parts[2]) != len(c.Clauses) || checkModel(c) != api.OK {
		return api.Cnf{}, api.ErrSyntax
	}
	return c, api.OK
}

// projected returns the number of assignments of the first variables that some model extends, and the greatest number of models that extend one of them.
func projected(c api.Cnf, keep int) (count, most int) {
	models := map[int]int{}
	sample.Assignments(c.Vars, func(in []bool) {
		if isModel(c.Clauses, in) {
			models[sample.Rank(in[:keep])]++
		}
	})
	for _, n := range models {
		most = max(most, n)
	}
	return len(models), most
}
