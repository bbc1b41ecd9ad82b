package flat

import (
	"strconv"
	"strings"

	"keyhole/api"
)

// kindWords and signs have the words for kinds of variables, and the operators as they are written.
var (
	kindWords = [...]string{api.Local: "local", api.Secret: "secret", api.Public: "public", api.Random: "random"}
	signs     = [...]string{
		api.OpNeg: "neg", api.OpNot: "not", api.OpAdd: "+", api.OpSub: "-", api.OpMul: "*", api.OpDiv: "/", api.OpMod: "%",
		api.OpEq: "==", api.OpNe: "!=", api.OpLt: "<", api.OpLe: "<=", api.OpGt: ">", api.OpGe: ">=", api.OpAnd: "and", api.OpOr: "or",
		api.OpMin: "min", api.OpMax: "max", api.OpCond: "if", api.OpSelect: "select",
	}
)

// Text returns the text of a valid program, otherwise the empty string.
func Text(f api.Flat) string {
	if Check(f) != api.OK {
		return ""
	}
	w := writer{program: f}
	for _, v := range f.Vars {
		parts := []string{kindWords[v.Kind], v.Name, strconv.Itoa(v.Low), strconv.Itoa(v.High)}
		if v.Kind == api.Local {
			parts = append(parts, "=", strconv.Itoa(v.Init))
		}
		w.line(parts...)
	}
	for _, h := range f.Hatches {
		w.line("hatch", h.Name, strconv.Itoa(h.Low), strconv.Itoa(h.High), w.term(h.Term))
	}
	w.line("begin")
	w.steps(f.Body)
	return w.text.String()
}

// writer collects the lines of a valid program. The margin of a line is as wide as its step is deep.
type writer struct {
	program api.Flat
	text    strings.Builder
	depth   int
}

// line adds a line that consists of the parts.
func (w *writer) line(parts ...string) {
	w.text.WriteString(strings.Repeat("  ", w.depth))
	w.text.WriteString(strings.Join(parts, " "))
	w.text.WriteByte('\n')
}

// steps adds the lines of steps inside what the writer has written last.
func (w *writer) steps(list []api.Step) {
	w.depth++
	for _, s := range list {
		w.step(s)
	}
	w.depth--
}

func (w *writer) step(s api.Step) {
	cost := strconv.Itoa(s.Cost)
	switch s.Do {
	case api.Assign:
		w.line("assign", cost, w.program.Vars[s.Var].Name, w.term(s.Term))
	case api.Output:
		w.line("output", cost, w.term(s.Term))
	case api.Wait:
		w.line("wait", cost)
	case api.If:
		w.line("if", cost, w.term(s.Term))
		w.steps(s.Then)
		if len(s.Else) > 0 {
			w.line("else")
			w.steps(s.Else)
		}
	case api.Loop:
		w.line("loop", cost, strconv.Itoa(s.N), w.term(s.Term))
		w.steps(s.Then)
	case api.Release:
		w.line("release", cost, w.program.Vars[s.Var].Name, w.program.Hatches[s.N].Name)
	case api.Settle:
		parts := []string{"settle", cost}
		for _, b := range s.Bounds {
			parts = append(parts, strconv.Itoa(b))
		}
		w.line(parts...)
	}
}

// term returns the text of a term.
func (w *writer) term(t api.Term) string {
	switch t.Op {
	case api.OpLit:
		return strconv.Itoa(t.N)
	case api.OpRef:
		return w.program.Vars[t.N].Name
	}
	parts := []string{"(" + signs[t.Op]}
	for _, kid := range t.Kids {
		parts = append(parts, w.term(kid))
	}
	return strings.Join(parts, " ") + ")"
}
