package lower_test

import (
	"math/rand"
	"slices"
	"strconv"
	"strings"

	"keyhole/api"
	"keyhole/parser"
	"keyhole/syntax"
	"keyhole/types"
)

// entry is something that is declared, with its expanded type, and of a function the types of its parameters.
type entry struct {
	name     string
	of       api.Type
	readOnly bool
	params   []api.Type
}

// writer writes the texts of random programs, most of which follow the rules.
type writer struct {
	*rand.Rand
	decls      []api.Decl // of types
	visible    []entry
	hatches    []entry
	functions  []entry
	inFunction bool
	loops      int // around, or before in the same function
}

func newWriter(seed int64) *writer {
	return &writer{Rand: rand.New(rand.NewSource(seed))}
}

func pick[T any](w *writer, list ...T) T {
	return list[w.Intn(len(list))]
}

func isNumber(t api.Type) bool { return t.Kind == api.TypeInt }
func isTruth(t api.Type) bool  { return t.Kind == api.TypeBool }

// kind returns a type, in which declared names may occur.
func (w *writer) kind(depth int) api.Type {
	switch n := w.Intn(8); {
	case n == 0 && len(w.decls) > 0:
		return api.Type{Kind: api.TypeName, Name: pick(w, w.decls...).Name}
	case n < 4 && depth > 1:
		return api.Type{Kind: api.TypeArray, Size: 1 + w.Intn(3), Of: []api.Type{w.kind(depth - 1)}}
	case n == 4 && depth > 1:
		names := pick(w, []string{"y", "x"}, []string{"x", "z1", "y"}, []string{"longfortests", "longfortest2"})
		t := api.Type{Kind: api.TypeRecord, Names: names}
		for range names {
			t.Of = append(t.Of, w.kind(depth-1))
		}
		return t
	case n == 5:
		return api.Type{}
	}
	low := pick(w, 0, 0, 1, -1, -2)
	return api.Type{Kind: api.TypeInt, Low: low, High: low + w.Intn(4)}
}

func (w *writer) expand(t api.Type) api.Type {
	expanded, _ := types.Expand(w.decls, t)
	return expanded
}

func textOf(t api.Type) string {
	text, _ := syntax.PrintType(t)
	return text
}

// place returns a component of a variable of an accepted type, with its type, if one is found soon.
func (w *writer) place(depth int, variables []entry, accept func(t api.Type) bool) (string, api.Type, bool) {
	for range 8 {
		if len(variables) == 0 {
			break
		}
		v := pick(w, variables...)
		text, t := v.name, v.of
		for level := 1; level < depth && len(t.Of) > 0 && (!accept(t) || w.Intn(2) == 0); level++ {
			if t.Kind == api.TypeRecord {
				i := w.Intn(len(t.Of))
				text, t = text+"."+t.Names[i], t.Of[i]
			} else {
				text, t = text+"["+w.number(depth-2)+"]", t.Of[0]
			}
		}
		if accept(t) {
			return text, t, true
		}
	}
	return "", api.Type{}, false
}

// number returns an int expression.
func (w *writer) number(depth int) string {
	if text, _, ok := w.place(depth, w.visible, isNumber); ok && w.Intn(3) > 0 {
		return text
	}
	if depth <= 1 || w.Intn(4) == 0 {
		return pick(w, "0", "1", "2", "3", "7", "50")
	}
	a, b := w.number(depth-1), w.number(depth-1)
	switch w.Intn(6) {
	case 0:
		return "(-" + a + ")"
	case 1:
		return pick(w, "min", "max") + "(" + a + ", " + b + ")"
	case 2:
		return "(" + w.truth(depth-1) + " ? " + a + " : " + b + ")"
	}
	return "(" + a + pick(w, " + ", " - ", " * ", " / ", " % ") + b + ")"
}

// truth returns a bool expression.
func (w *writer) truth(depth int) string {
	if text, _, ok := w.place(depth, w.visible, isTruth); ok && w.Intn(3) == 0 {
		return text
	}
	if depth <= 1 {
		return pick(w, "true", "false")
	}
	switch w.Intn(6) {
	case 0:
		return "(!" + w.truth(depth-1) + ")"
	case 1:
		return "(" + w.truth(depth-1) + pick(w, " && ", " || ", " == ", " != ") + w.truth(depth-1) + ")"
	case 2:
		return "(" + w.truth(depth-1) + " ? " + w.truth(depth-1) + " : " + w.truth(depth-1) + ")"
	}
	return "(" + w.number(depth-1) + pick(w, " == ", " != ", " < ", " <= ", " > ", " >= ") + w.number(depth-1) + ")"
}

// value returns an expression that is assignable to a place of the type, if one is found soon.
func (w *writer) value(t api.Type, depth int) (string, bool) {
	switch {
	case isNumber(t):
		return w.number(depth), true
	case isTruth(t):
		return w.truth(depth), true
	}
	text, _, ok := w.place(depth, w.visible, func(other api.Type) bool { return types.Equal(t, other) })
	return text, ok
}

// target returns a place that may be assigned, and its type.
func (w *writer) target(accept func(t api.Type) bool) (string, api.Type, bool) {
	variables := slices.DeleteFunc(slices.Clone(w.visible), func(v entry) bool { return v.readOnly })
	return w.place(4, variables, accept)
}

func (w *writer) stmts(most, depth int) string {
	var b strings.Builder
	for range w.Intn(most + 1) {
		b.WriteString(w.stmt(depth))
	}
	return b.String()
}

func (w *writer) stmt(depth int) string {
	if depth > 1 && w.Intn(3) == 0 {
		return w.compound(depth)
	}
	switch w.Intn(8) {
	case 0:
		return w.call()
	case 1:
		return w.release()
	case 2:
		return "output " + pick(w, w.number(4), w.truth(4)) + "; "
	case 3:
		return "wait " + pick(w, "0", "1", "17", "5000") + "; "
	}
	place, t, ok := w.target(func(t api.Type) bool { return w.Intn(2) == 0 || len(t.Of) == 0 })
	value, found := w.value(t, 4)
	if !ok || !found {
		return "wait 2; "
	}
	return place + " = " + value + "; "
}

// fits reports whether a value of the type of something that is declared can be assigned to a place of a type.
func (e entry) fits(t api.Type) bool {
	return isNumber(t) && isNumber(e.of) || isTruth(t) && isTruth(e.of) || types.Equal(t, e.of)
}

func (w *writer) call() string {
	if len(w.functions) == 0 {
		return "wait 3; "
	}
	f := pick(w, w.functions...)
	place, _, ok := w.target(f.fits)
	if !ok {
		return "wait 4; "
	}
	var arguments []string
	for _, param := range f.params {
		argument, ok := w.value(param, 3)
		if !ok {
			return "wait 5; "
		}
		arguments = append(arguments, argument)
	}
	return place + " = call " + f.name + "(" + strings.Join(arguments, ", ") + "); "
}

func (w *writer) release() string {
	if len(w.hatches) == 0 || w.inFunction {
		return "wait 6; "
	}
	h := pick(w, w.hatches...)
	place, _, ok := w.target(h.fits)
	if !ok {
		return "wait 7; "
	}
	return place + " = release " + h.name + "; "
}

// compound returns a statement with statements inside.
func (w *writer) compound(depth int) string {
	switch w.Intn(3) {
	case 0:
		text := "if " + w.truth(3) + " { " + w.stmts(2, depth-1) + "} "
		if w.Intn(2) == 0 {
			text += "else { " + w.stmts(2, depth-1) + "} "
		}
		return text
	case 1:
		return "while " + w.truth(3) + " limit " + strconv.Itoa(w.Intn(4)) + " { " + w.stmts(2, depth-1) + "} "
	}
	low := pick(w, 0, 0, 1, -2, -1<<20, 1<<20-2)
	high := low + w.Intn(3)
	name := "i" + strconv.Itoa(w.loops%3)
	outer := w.visible
	w.loops++
	w.visible = append(slices.Clone(outer), entry{name: name, of: api.Type{Kind: api.TypeInt, Low: low, High: high}, readOnly: true})
	text := "for " + name + " = " + strconv.Itoa(low) + " to " + strconv.Itoa(high) + " { " + w.stmts(2, depth-1) + "} "
	w.visible = outer
	return text
}

// init returns the text of an initial value, which need not lie within the bounds.
func (w *writer) init(t api.Type) string {
	if isTruth(t) {
		return pick(w, "", " = true", " = false")
	}
	return pick(w, "", "", " = 1", " = 2", " = 5", " = -1", " = -5", " = 1048576")
}

// decl returns the text of a declaration, and notes what it declares.
func (w *writer) decl(name string) string {
	t := w.kind(3)
	word := pick(w, "type", "secret", "public", "random", "var", "var", "var", "hatch", "func", "func")
	isInput := word == "secret" || word == "public" || word == "random"
	e := entry{name: name, of: w.expand(t), readOnly: isInput}
	switch {
	case word == "type":
		w.decls = append(w.decls, api.Decl{Kind: api.TypeDecl, Name: name, Type: t})
		return "type " + name + " = " + textOf(t) + "; "
	case word == "func":
		return w.function(name)
	case word == "hatch":
		return w.hatch(name)
	case isInput:
		w.visible = append(w.visible, e)
		return word + " " + name + ": " + textOf(t) + "; "
	}
	w.visible = append(w.visible, e)
	return "var " + name + ": " + textOf(t) + w.init(t) + "; "
}

func (w *writer) hatch(name string) string {
	t := pick(w, api.Type{}, api.Type{Kind: api.TypeInt, Low: -1, High: 2})
	all := w.visible
	w.visible = slices.DeleteFunc(slices.Clone(all), func(v entry) bool { return !v.readOnly })
	value, _ := w.value(t, 4)
	w.visible = all
	w.hatches = append(w.hatches, entry{name: name, of: t})
	return "hatch " + name + ": " + textOf(t) + " = " + value + "; "
}

// function returns the text of a function, in which nothing of the program is visible but other functions.
func (w *writer) function(name string) string {
	inner := &writer{Rand: w.Rand, decls: w.decls, functions: w.functions, inFunction: true}
	var params []string
	var vars string
	f := entry{name: name}
	for i := range w.Intn(3) {
		t := w.kind(2)
		p := "p" + strconv.Itoa(i)
		params = append(params, p+": "+textOf(t))
		f.params = append(f.params, w.expand(t))
		inner.visible = append(inner.visible, entry{name: p, of: w.expand(t)})
	}
	for i := range w.Intn(3) {
		t := w.kind(2)
		v := "v" + strconv.Itoa(i)
		vars += "var " + v + ": " + textOf(t) + w.init(t) + "; "
		inner.visible = append(inner.visible, entry{name: v, of: w.expand(t)})
	}
	t := w.kind(2)
	body := inner.stmts(3, 2)
	value, ok := inner.value(w.expand(t), 3)
	if !ok {
		t, value = api.Type{Kind: api.TypeInt, Low: -2, High: 2}, inner.number(3)
	}
	f.of = w.expand(t)
	w.functions = append(w.functions, f)
	return "func " + name + "(" + strings.Join(params, ", ") + "): " + textOf(t) + " { " + vars + body + "return " + value + "; } "
}

// start writes the declarations of another program.
func (w *writer) start(most int) string {
	*w = writer{Rand: w.Rand}
	var b strings.Builder
	for i := range 3 + w.Intn(most-2) {
		b.WriteString(w.decl("d" + strconv.Itoa(i)))
	}
	return b.String()
}

// program returns a program. Not all of them are accepted.
func (w *writer) program() api.Program {
	text := w.start(10) + "begin "
	for range 1 + w.Intn(7) {
		text += w.stmt(3)
	}
	if w.Intn(4) == 0 {
		text += "settle 5, 50, 500, 5000; "
	}
	return parsed(text + "end")
}

// light returns a light program, to which statements are added as long as it is one.
func (w *writer) light() api.Program {
	decls := w.start(6)
	for !measureOf(parsed(decls + "begin end")).isLight() {
		decls = w.start(6)
	}
	body := ""
	for range 40 {
		if more := body + w.stmt(4); measureOf(parsed(decls + "begin " + more + "end")).isLight() {
			body = more
		}
	}
	return parsed(decls + "begin " + body + "end")
}

// parsed returns the program with a text that follows the grammar.
func parsed(text string) api.Program {
	p, at, code := parser.Parse(text)
	if code != api.OK && code != api.ErrLimit {
		panic(text[:at] + " <<< " + text[at:])
	}
	return p
}

// costs returns a cost model, mostly one without equal entries.
func (w *writer) costs() api.Costs {
	n := w.Perm(101)
	switch w.Intn(8) {
	case 0:
		n = make([]int, 13)
		n[w.Intn(13)] = 1
	case 1:
		n = slices.Repeat([]int{100}, 13)
	}
	return api.Costs{Assign: n[0], Branch: n[1], Loop: n[2], Call: n[3], Output: n[4], Release: n[5], Load: n[6], Index: n[7], Arith: n[8], Multiply: n[9], Divide: n[10], Compare: n[11], Logic: n[12]}
}
