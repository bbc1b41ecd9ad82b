package types_test

import (
	"math/big"
	"math/rand"
	"reflect"
	"slices"
	"strconv"
	"strings"

	"keyhole/api"
	"keyhole/syntax"
)

// The model follows the sentences of the chapter. It works on lists of nodes and of components instead of on trees.

// nodesOf returns t and all types within it, and the greatest depth.
func nodesOf(t api.Type) (list []api.Type, depth int) {
	for level := []api.Type{t}; len(level) > 0; depth++ {
		list = append(list, level...)
		var next []api.Type
		for _, node := range level {
			next = append(next, node.Of...)
		}
		level = next
	}
	return list, depth
}

// scalarCount returns the number of scalars of a type without declared names, however large.
func scalarCount(t api.Type) *big.Int {
	switch t.Kind {
	case api.TypeArray:
		return new(big.Int).Mul(big.NewInt(int64(t.Size)), scalarCount(t.Of[0]))
	case api.TypeRecord:
		sum := new(big.Int)
		for _, of := range t.Of {
			sum.Add(sum, scalarCount(of))
		}
		return sum
	}
	return big.NewInt(1)
}

func hasKind(list []api.Type, kind api.TypeKind) bool {
	return slices.ContainsFunc(list, func(t api.Type) bool { return t.Kind == kind })
}

func hasDuplicate(list []api.Type) bool {
	return slices.ContainsFunc(list, func(t api.Type) bool {
		names := slices.Sorted(slices.Values(t.Names))
		return len(slices.Compact(names)) < len(t.Names)
	})
}

func check(t api.Type) api.Code {
	if code := syntax.CheckType(t); code != api.OK {
		return code
	}
	list, _ := nodesOf(t)
	switch {
	case hasKind(list, api.TypeName):
		return api.ErrName
	case hasDuplicate(list):
		return api.ErrDuplicate
	case scalarCount(t).Cmp(big.NewInt(32)) > 0:
		return api.ErrLimit
	}
	return api.OK
}

// declared are the names that are declared so far, with their expanded types.
type declared struct {
	names []string
	types []api.Type
}

func expand(decls []api.Decl, t api.Type) (api.Type, api.Code) {
	var known declared
	for _, d := range decls {
		if d.Kind != api.TypeDecl {
			continue
		}
		if !syntax.IsName(d.Name) {
			return api.Type{}, api.ErrName
		}
		if slices.Contains(known.names, d.Name) {
			return api.Type{}, api.ErrDuplicate
		}
		of, code := known.expand(d.Type)
		if code != api.OK {
			return api.Type{}, code
		}
		known.names, known.types = append(known.names, d.Name), append(known.types, of)
	}
	return known.expand(t)
}

func (d declared) expand(t api.Type) (api.Type, api.Code) {
	if code := syntax.CheckType(t); code != api.OK {
		return api.Type{}, code
	}
	list, _ := nodesOf(t)
	for _, node := range list {
		if node.Kind == api.TypeName && !slices.Contains(d.names, node.Name) {
			return api.Type{}, api.ErrName
		}
	}
	result := d.replace(t)
	list, depth := nodesOf(result)
	switch {
	case hasDuplicate(list):
		return api.Type{}, api.ErrDuplicate
	case depth > 12 || scalarCount(result).Cmp(big.NewInt(32)) > 0:
		return api.Type{}, api.ErrLimit
	}
	return result, api.OK
}

func (d declared) replace(t api.Type) api.Type {
	if t.Kind == api.TypeName {
		return clone(d.types[slices.Index(d.names, t.Name)], false)
	}
	t = clone(t, false)
	for i := range t.Of {
		t.Of[i] = d.replace(t.Of[i])
	}
	return t
}

// part is a component of a type.
type part struct {
	path string
	of   api.Type
}

// partsOf returns all components of a valid type, itself included, each behind what it is in.
func partsOf(t api.Type) []part {
	list := []part{{"", t}}
	for i := 0; i < len(list); i++ {
		var within []part
		switch whole := list[i]; whole.of.Kind {
		case api.TypeArray:
			for k := range whole.of.Size {
				within = append(within, part{whole.path + "." + strconv.Itoa(k), whole.of.Of[0]})
			}
		case api.TypeRecord:
			for k, name := range whole.of.Names {
				within = append(within, part{whole.path + "." + name, whole.of.Of[k]})
			}
		}
		list = slices.Insert(list, i+1, within...)
	}
	return list
}

// scalarsOf returns the scalars of a valid type.
func scalarsOf(t api.Type) []api.Scalar {
	var list []api.Scalar
	for _, p := range partsOf(t) {
		switch p.of.Kind {
		case api.TypeBool:
			list = append(list, api.Scalar{Path: p.path, Bool: true, High: 1})
		case api.TypeInt:
			list = append(list, api.Scalar{Path: p.path, Low: p.of.Low, High: p.of.High})
		}
	}
	return list
}

// firstOf returns the index of the first scalar within the component with a path.
func firstOf(t api.Type, path string) int {
	return slices.IndexFunc(scalarsOf(t), func(s api.Scalar) bool {
		return s.Path == path || strings.HasPrefix(s.Path, path+".")
	})
}

// generator makes random types.
type generator struct {
	*rand.Rand
}

func newGenerator(seed int64) generator {
	return generator{rand.New(rand.NewSource(seed))}
}

func pick[T any](g generator, list ...T) T {
	return list[g.Intn(len(list))]
}

// interval returns a type with few values, or with many of them.
func (g generator) interval() api.Type {
	low := pick(g, 0, 0, 1, -1, -3, -1<<20)
	return api.Type{Kind: api.TypeInt, Low: low, High: pick(g, low, low+1, low+2, low+9, 1<<20)}
}

// kind returns a well-formed type of at most the depth. With names it contains declared ones.
func (g generator) kind(depth int, names ...string) api.Type {
	if depth > 1 && g.Intn(3) > 0 {
		if g.Intn(2) == 0 {
			return api.Type{Kind: api.TypeArray, Size: pick(g, 1, 1, 2, 2, 3, 4, 11, 16, 31, 32), Of: []api.Type{g.kind(depth-1, names...)}}
		}
		record := api.Type{Kind: api.TypeRecord}
		for i := range 1 + g.Intn(4) {
			name := string(rune('a' + i))
			if g.Intn(12) == 0 {
				name = pick(g, "a", "b", "x1", "abcdefghijkl")
			}
			record.Names = append(record.Names, name)
			record.Of = append(record.Of, g.kind(depth-1, names...))
		}
		return record
	}
	if len(names) > 0 && g.Intn(2) == 0 {
		return api.Type{Kind: api.TypeName, Name: pick(g, names...)}
	}
	return pick(g, api.Type{}, g.interval())
}

// valid returns a valid type of at most the depth.
func (g generator) valid(depth int) api.Type {
	for {
		if t := g.kind(depth); check(t) == api.OK {
			return t
		}
	}
}

// fieldsOf returns all fields of all types within v: numbers, names and lists.
func fieldsOf(v reflect.Value) []reflect.Value {
	switch v.Kind() {
	case reflect.Struct:
		var result []reflect.Value
		for i := range v.NumField() {
			result = append(result, fieldsOf(v.Field(i))...)
		}
		return result
	case reflect.Slice:
		result := []reflect.Value{v}
		for i := range v.Len() {
			result = append(result, fieldsOf(v.Index(i))...)
		}
		return result
	}
	return []reflect.Value{v}
}

// clone returns a copy of t that shares no memory with it. Its empty lists are nil, or none of them is.
func clone(t api.Type, empty bool) api.Type {
	if t.Names = slices.Clone(t.Names); len(t.Names) == 0 {
		t.Names = nil
	}
	var of []api.Type
	for _, component := range t.Of {
		of = append(of, clone(component, empty))
	}
	t.Of = of
	if empty && t.Names == nil {
		t.Names = []string{}
	}
	if empty && t.Of == nil {
		t.Of = []api.Type{}
	}
	return t
}

// same reports whether a and b have the same fields, where nil and empty lists are equal.
func same(a, b api.Type) bool {
	return reflect.DeepEqual(clone(a, false), clone(b, false))
}

// valueOf returns what t points to.
func valueOf(t *api.Type) reflect.Value {
	return reflect.ValueOf(t).Elem()
}

// mutate changes one field of t, often so that t is not valid any more.
func (g generator) mutate(t *api.Type) {
	g.change(pick(g, fieldsOf(valueOf(t))...))
}

// change gives the field a value, mostly another one.
func (g generator) change(field reflect.Value) {
	switch field.Kind() {
	case reflect.Int:
		field.SetInt(int64(pick(g, -1, 0, 1, 2, 3, 4, 5, 31, 32, 33, 1<<20, 1<<20+1, -1<<20, -1<<20-1, 1<<62, -1<<63)))
	case reflect.String:
		field.SetString(pick(g, "", "a", "b", "q", "type", "A", "abcdefghijklm"))
	case reflect.Slice:
		n := field.Len()
		if n > 0 && g.Intn(2) == 0 {
			field.Set(field.Slice(0, n-1))
		} else {
			field.Set(reflect.Append(field.Slice3(0, n, n), reflect.Zero(field.Type().Elem())))
		}
	}
}
