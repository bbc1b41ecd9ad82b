package cost_test

import (
	"math/rand"
	"reflect"
	"regexp"
	"strconv"
	"strings"

	"keyhole/api"
	"keyhole/syntax"
)

// entryNames are the names of the entries in the order of the chapter, which is that of the fields.
var entryNames = strings.Fields("assign branch loop call output release load index arith multiply divide compare logic")

// entry returns the entry of the model with a name.
func entry(c api.Costs, name string) int {
	return int(reflect.ValueOf(c).FieldByName(strings.ToUpper(name[:1]) + name[1:]).Int())
}

// setEntry gives an entry of the model a value.
func setEntry(c *api.Costs, name string, value int) {
	reflect.ValueOf(c).Elem().FieldByName(strings.ToUpper(name[:1]) + name[1:]).SetInt(int64(value))
}

// entryOf has the name of the entry that each operator costs.
var entryOf = map[api.Op]string{
	api.OpName: "load", api.OpIndex: "index", api.OpNeg: "arith", api.OpNot: "logic", api.OpAdd: "arith", api.OpSub: "arith",
	api.OpMul: "multiply", api.OpDiv: "divide", api.OpMod: "divide", api.OpEq: "compare", api.OpNe: "compare", api.OpLt: "compare",
	api.OpLe: "compare", api.OpGt: "compare", api.OpGe: "compare", api.OpAnd: "logic", api.OpOr: "logic", api.OpMin: "arith",
	api.OpMax: "arith", api.OpCond: "logic",
}

// nodes returns all nodes of an expression.
func nodes(e api.Expr) []api.Expr {
	list := []api.Expr{e}
	for i := 0; i < len(list); i++ {
		list = append(list, list[i].Kids...)
	}
	return list
}

// exprModel returns the cost of a well-formed expression.
func exprModel(c api.Costs, e api.Expr) int {
	total := 0
	for _, node := range nodes(e) {
		if name := entryOf[node.Op]; name != "" {
			total += entry(c, name)
		}
	}
	return total
}

func placeModel(c api.Costs, place api.Expr) int {
	return exprModel(c, place) - entry(c, "load")
}

// errorModel returns the code of the first error of the arguments, in the order of the chapter.
func errorModel(c api.Costs, exprs []api.Expr, places []api.Expr, fit bool, scalars []int) api.Code {
	for _, name := range entryNames {
		if v := entry(c, name); v < 0 || v > 100 {
			return api.ErrRange
		}
	}
	for _, e := range exprs {
		if code := syntax.CheckExpr(e); code != api.OK {
			return code
		}
	}
	for _, place := range places {
		if place.Op < api.OpName || place.Op > api.OpIndex {
			return api.ErrArgument
		}
	}
	if !fit {
		return api.ErrMismatch
	}
	for _, s := range scalars {
		if s < 0 || s > 32 {
			return api.ErrRange
		}
	}
	return api.OK
}

var partForm = regexp.MustCompile(`^ *([a-z]+) +(0|[1-9][0-9]*) *$`)

// parseModel returns what the sentences about Parse say.
func parseModel(text string) (api.Costs, api.Code) {
	var c api.Costs
	if len(text) > 8192 {
		return c, api.ErrLong
	}
	if strings.Count(text, " ") == len(text) {
		return c, api.OK
	}
	earlier := map[string]bool{}
	for _, part := range strings.Split(text, ",") {
		found := partForm.FindStringSubmatch(part)
		if found == nil || strings.Contains(part, "\n") {
			return api.Costs{}, api.ErrSyntax
		}
		if !strings.Contains(" "+strings.Join(entryNames, " ")+" ", " "+found[1]+" ") {
			return api.Costs{}, api.ErrName
		}
		if earlier[found[1]] {
			return api.Costs{}, api.ErrDuplicate
		}
		earlier[found[1]] = true
		if len(found[2]) > 3 || found[2] > "100" && len(found[2]) == 3 {
			return api.Costs{}, api.ErrRange
		}
		value, _ := strconv.Atoi(found[2])
		setEntry(&c, found[1], value)
	}
	return c, api.OK
}

// generator makes random cost models and expressions.
type generator struct {
	*rand.Rand
	slips int // one of slips nodes is malformed; 0: none
}

func newGenerator(seed int64, slips int) generator {
	return generator{rand.New(rand.NewSource(seed)), slips}
}

func pick[T any](g generator, list ...T) T {
	return list[g.Intn(len(list))]
}

// costs returns a cost model. Its entries differ, so that none can be taken for another one.
func (g generator) costs() api.Costs {
	var c api.Costs
	for i, value := range g.Perm(101)[:len(entryNames)] {
		setEntry(&c, entryNames[i], value)
	}
	return c
}

// costsOrWrong returns a model, which is wrong now and then.
func (g generator) costsOrWrong() api.Costs {
	c := g.costs()
	if g.slips > 0 && g.Intn(12) == 0 {
		setEntry(&c, pick(g, entryNames...), pick(g, -1, 101, 1<<62, -1<<63))
	}
	return c
}

func (g generator) place(depth int) api.Expr {
	switch {
	case depth <= 1 || g.Intn(3) == 0:
		return api.Expr{Op: api.OpName, Name: pick(g, "a", "b", "list")}
	case g.Intn(2) == 0:
		return api.Expr{Op: api.OpField, Name: pick(g, "x", "y"), Kids: []api.Expr{g.place(depth - 1)}}
	}
	return api.Expr{Op: api.OpIndex, Kids: []api.Expr{g.place(depth - 1), g.expr(depth - 1)}}
}

// expr returns an expression of at most the depth.
func (g generator) expr(depth int) api.Expr {
	if g.slips > 0 && g.Intn(g.slips) == 0 {
		return g.wrong()
	}
	if depth <= 1 || g.Intn(6) == 0 {
		return pick(g, api.Expr{N: g.Intn(100)}, api.Expr{Op: api.OpTrue}, api.Expr{Op: api.OpFalse}, api.Expr{Op: api.OpName, Name: "a"})
	}
	if g.Intn(4) == 0 {
		return g.place(depth)
	}
	e := api.Expr{Op: api.OpNeg + api.Op(g.Intn(int(api.OpCond-api.OpNeg)+1))}
	kids := 2
	switch e.Op {
	case api.OpNeg, api.OpNot:
		kids = 1
	case api.OpCond:
		kids = 3
	}
	for range kids {
		e.Kids = append(e.Kids, g.expr(depth-1))
	}
	return e
}

// wrong returns an expression that is not well formed.
func (g generator) wrong() api.Expr {
	a := api.Expr{Op: api.OpName, Name: "a"}
	return pick(g, api.Expr{Op: api.OpRef}, api.Expr{Op: api.OpSelect, Kids: []api.Expr{a, a}}, api.Expr{Op: -1}, api.Expr{Op: api.OpAdd, Kids: []api.Expr{a}},
		api.Expr{Op: api.OpName}, api.Expr{Op: api.OpName, Name: "if"}, api.Expr{N: -1}, api.Expr{N: 1<<20 + 1}, api.Expr{Op: api.OpTrue, N: 1},
		api.Expr{Op: api.OpField, Name: "x", Kids: []api.Expr{{N: 1}}}, api.Expr{Op: api.OpNeg, Name: "a", Kids: []api.Expr{a}}, deep(13))
}

// deep returns an expression of the depth.
func deep(depth int) api.Expr {
	e := api.Expr{Op: api.OpName, Name: "a"}
	for range depth - 1 {
		e = api.Expr{Op: api.OpNeg, Kids: []api.Expr{e}}
	}
	return e
}
