package lower_test

import (
	"fmt"
	"slices"
	"strings"
	"testing"

	"keyhole/api"
	"keyhole/cost"
	"keyhole/flat"
	"keyhole/lower"
	"keyhole/typecheck"
)

// split returns two models with the sum of c.
func (w *writer) split(c api.Costs) (a, b api.Costs) {
	var first, second []string
	text, _ := cost.Print(c)
	for _, part := range strings.Split(text, ", ") {
		name, digits, _ := strings.Cut(part, " ")
		n := 0
		fmt.Sscan(digits, &n)
		some := w.Intn(n + 1)
		first = append(first, fmt.Sprint(name, " ", some))
		second = append(second, fmt.Sprint(name, " ", n-some))
	}
	a, _ = cost.Parse(strings.Join(first, ","))
	b, _ = cost.Parse(strings.Join(second, ","))
	return a, b
}

func TestP18_4RandomLightPrograms(t *testing.T) {
	w := newWriter(184)
	heavy := 0
	for range 500 {
		p := w.light()
		c := w.costs()
		if measureOf(p).weight() > 90 {
			heavy++
		}
		expectLowered(t, w, p, c, 6)
		expectLowered(t, w, p, dearest, 1)
	}
	if heavy < 300 {
		t.Errorf("only %d programs are almost too heavy", heavy)
	}
}

// repeated returns texts made of the numbers from first on, one behind the other.
func repeated(first, count int, format string) string {
	var b strings.Builder
	for i := range count {
		b.WriteString(strings.ReplaceAll(format, "#", fmt.Sprint(first+i)))
	}
	return b.String()
}

// TestP18_1LargePrograms has bodies that are so long that some are beyond the limits.
func TestP18_1LargePrograms(t *testing.T) {
	w := newWriter(181)
	lowered, refused := 0, 0
	for range 400 {
		p, c := w.program(), w.costs()
		p.Body = slices.DeleteFunc(p.Body, func(s api.Stmt) bool { return s.Verb == api.OutputStmt || s.Verb == api.SettleStmt })
		for range 5 {
			p.Body = slices.Concat(p.Body, p.Body)
			if _, code := typecheck.Check(p); code != api.OK {
				break
			}
			if f, code := lower.Lower(p, c); code == api.ErrLimit && flat.Equal(f, api.Flat{}) {
				refused++
				break
			}
			expectLowered(t, w, p, c, 1)
			lowered++
		}
	}
	if lowered < 500 || refused < 30 {
		t.Errorf("only %d programs, %d refused", lowered, refused)
	}
}

// lightest are light programs that are at some limit.
func lightest() map[string]string {
	return map[string]string{
		"slots and for statements": "var a: array 32 of bool; begin " + repeated(0, 7, "if true { for i = # to # { } } ") + repeated(7, 4, "for i = # to # { } ") + "end",
		"steps":                    "var x: int[0..9]; begin for i = 1 to 14 { x = x + 1; } output x; end",
		"while steps":              "secret s: int[0..9]; var x: int[0..9]; begin while x < s limit 7 { x = x + 1; if x == 5 { wait 1; } } end",
		"waits":                    "begin " + strings.Repeat("wait 1048576; ", 30) + "end",
		"waits in a loop":          "begin while true limit 14 { wait 1048576; } wait 1048576; end",
		"waits in branches":        "secret s: bool; begin for i = 0 to 6 { if s { wait 1048576; wait 1048576; } else { wait 1048576; } } end",
		"depth":                    "secret s: int[0..1]; var a: array 2 of int[0..1]; begin output a[a[-(-s)]]; end",
		"depth of a place":         "secret s: int[0..1]; var a: array 2 of int[0..1]; begin a[a[-s + 1]] = 1; end",
		"nesting":                  "secret s: bool; begin if s { while s limit 1 { for i = 0 to 0 { if s { if s { } } } } } end",
		"nesting in a function":    "secret s: bool; func f(x: bool): bool { if x { if x { x = !x; } } return x; } func g(x: bool): bool { x = call f(x); return x; } var b: bool; begin b = call g(s); end",
		"calls":                    "secret s: bool; func f(x: bool): bool { return !x; } var b: bool; begin " + strings.Repeat("b = call f(b); ", 9) + "end",
		"variables of functions":   "secret s: bool; func f(): bool { var v: array 29 of bool; return true; } var b: bool; begin b = call f(); end",
		"many components":          "secret s: int[0..31]; var a: array 23 of bool; begin a[s] = true; end",
		"two rows":                 "secret s: int[0..2]; var a: array 2 of array 5 of bool; var b: array 5 of bool; begin a[s] = b; b = a[s]; end",
		"three indices":            "secret s: int[0..2]; var a: array 2 of array 2 of array 2 of bool; begin a[s][s][s] = true; end",
		"arrays of one component":  "secret s: int[0..2]; var a: array 1 of array 1 of array 1 of array 1 of bool; begin a[s][s][s][s] = true; a[0][0][0][0] = a[s][s][s][s]; end",
		"names":                    "secret abcdefghijkl: record {abcdefghijkl: record {abcdefghijkl: record {a: bool}}}; begin output abcdefghijkl.abcdefghijkl.abcdefghijkl.a; end",
		"hatches":                  "secret s: array 2 of bool; " + repeated(0, 8, "hatch h#: bool = !s[#]; ") + "begin end",
		"outputs":                  "secret s: bool; begin for i = 0 to 7 { output s; } end",
		"nothing":                  "begin end",
		"never":                    "secret s: bool; var b: bool; func f(x: bool): bool { while x limit 0 { x = !x; x = !x; x = !x; x = !x; } return x; } begin while s limit 0 { b = call f(b); b = call f(b); } end",
	}
}

func TestP18_4AtTheLimits(t *testing.T) {
	w := newWriter(1842)
	for name, text := range lightest() {
		p := parse(t, text)
		if !measureOf(p).isLight() {
			t.Errorf("%s is not light: the weight is %d, the slots %d", name, measureOf(p).weight(), measureOf(p).slots())
		}
		for _, c := range []api.Costs{{}, prices, dearest} {
			expectLowered(t, w, p, c, 40)
		}
	}
}

// sumOf returns the sum of as many variables as are wanted.
func sumOf(count int) string {
	// As a tree it is not too deep.
	if count == 1 {
		return "s"
	}
	return "(" + sumOf(count/2) + " + " + sumOf(count-count/2) + ")"
}

// Costs above that of a flat step are divided.
func TestP18_3HighCosts(t *testing.T) {
	w := newWriter(1833)
	long, longer := sumOf(100), sumOf(60)
	for _, text := range []string{
		"secret s: int[0..3]; var x: int[0..999]; begin x = " + long + "; output x; output " + long + "; end",
		"secret s: int[0..3]; begin if " + long + " > 200 { wait 3; } else { if " + longer + " == 0 { output s; } } end",
		"secret s: int[0..3]; func f(a: int[0..9], b: int[0..999]): int[0..999] { return b - a; } var x: int[0..999]; begin x = call f(" + long + ", " + long + "); output x; end",
		"secret s: int[0..3]; func f(): int[0..9] { var a: int[0..3] = 3; if a > 2 { output a; } return " + strings.ReplaceAll(long, "s", "a") + "; } var x: array 2 of int[0..9]; begin x[" + long + "] = call f(); output x[0]; end",
		"secret s: int[0..3]; hatch h: bool = s > 1; var x: array 2 of bool; begin x[" + long + "] = release h; x[" + long + "] = x[0]; output x[1]; end",
		"secret s: int[0..3]; var x: bool; begin while " + sumOf(48) + " > 70 && !x limit 2 { x = true; output x; } end",
	} {
		expectLowered(t, w, parse(t, text), dearest, 4)
	}
	// A loop takes its cost in each round, and there is no other place for it.
	p := parse(t, "secret s: int[0..3]; begin while "+long+" > 200 limit 2 { } end")
	expectLowered(t, w, p, prices, 4)
	if _, code := lower.Lower(p, dearest); code != api.ErrLimit {
		t.Errorf("Lower = %d", code)
	}
}

// chain returns a program in which a function calls another one, and so on; # in the body of each stands for the number of the
// next one.
func chain(length int, body string) string {
	var b strings.Builder
	b.WriteString("func f0(c: bool): bool { return c; } ")
	for i := range length {
		fmt.Fprintf(&b, "func f%d(c: bool): bool { %s return c; } ", i+1, strings.ReplaceAll(body, "#", fmt.Sprint(i)))
	}
	fmt.Fprintf(&b, "secret s: bool; var x: bool; begin x = call f%d(s); end", length)
	return b.String()
}

// TestP18_6Limits has programs that are too large to be lowered, of which some stand for endless many steps or terms.
func TestP18_6Limits(t *testing.T) {
	deep, wide := "a[s]", "a[1][s]"
	for range 10 {
		deep = "a[" + deep + "]"
	}
	for range 4 {
		wide = "a[" + wide + "][s]"
	}
	for name, text := range map[string]string{
		"branches":  chain(50, "if c { c = call f#(c); } else { c = call f#(!c); }"),
		"few names": chain(30, "if c { c = call f#(c); } else { c = call f#(!c); }"),
		"no rounds": chain(50, "while c limit 0 { c = call f#(c); c = call f#(!c); c = call f#(c); }"),
		"wide":      "secret s: int[0..3]; var a: array 2 of array 16 of int[0..15]; begin output " + wide + "; end",
		"deep":      "secret s: int[0..3]; var a: array 32 of int[0..31]; begin " + strings.Repeat("output "+deep+"; ", 8) + "end",
		"hatches":   "secret s: int[0..3]; secret a: array 2 of array 16 of int[0..0]; hatch h: bool = " + wide + " > 0; begin end",
		"variables": "var a: array 32 of bool; var b: array 32 of bool; func f(x: bool): bool { return x; } begin a[0] = call f(b[0]); end",
		"name":      "secret abcdefghijkl: record {abcdefghijkl: record {abcdefghijkl: record {ab: bool}}}; begin end",
		"time":      "begin for i = 1 to 64 { wait 1048576; } wait 1; end",
		"steps":     "var a: array 32 of bool; begin for i = 1 to 200 { a[a[0] ? 1 : i] = true; } end",
		"nesting":   "func f(c: bool): bool { " + strings.Repeat("if c { ", 8) + strings.Repeat("} ", 8) + "return c; } var x: bool; begin " + strings.Repeat("if x { ", 6) + "x = call f(x); " + strings.Repeat("} ", 6) + "end",
	} {
		p := parse(t, text)
		if f, code := lower.Lower(p, cost.Default()); code != api.ErrLimit || !flat.Equal(f, api.Flat{}) {
			t.Errorf("%s: Lower = %d", name, code)
		}
	}
}

// TestP18_6Work has a program with terms that would be much larger than all that may be made.
func TestP18_6Work(t *testing.T) {
	wide := "a[1][s]"
	for range 4 {
		wide = "a[" + wide + "][s]"
	}
	params, arguments := repeated(0, 30, "p#: bool, "), strings.Repeat(wide+" == 1, ", 30)
	p := parse(t, "func f("+params+"p: bool): bool { return p; } secret s: int[0..3]; var a: array 2 of array 16 of int[0..15]; var b: bool; begin b = call f("+arguments+"true); end")
	if allocations := testing.AllocsPerRun(1, func() { lower.Lower(p, prices) }); allocations > 100_000 {
		t.Errorf("%v allocations", allocations)
	}
}

func TestP18_6Order(t *testing.T) {
	tooDear := api.Costs{Logic: 101}
	good, wrong := parse(t, guess), parse(t, guess)
	wrong.Body[0].Value.Kids[0].Name = "pins"
	heavy := parse(t, "begin for i = 1 to 64 { wait 1048576; } wait 1; end")
	lost := parse(t, guess)
	lost.Decls[0].Kind = 77
	for i, c := range []struct {
		p    api.Program
		c    api.Costs
		want api.Code
	}{
		{good, prices, api.OK}, {good, tooDear, api.ErrRange}, {good, api.Costs{Load: -1}, api.ErrRange}, {wrong, prices, api.ErrName}, {wrong, tooDear, api.ErrName},
		{heavy, prices, api.ErrLimit}, {heavy, tooDear, api.ErrRange}, {lost, prices, api.ErrArgument}, {lost, tooDear, api.ErrArgument},
	} {
		f, code := lower.Lower(c.p, c.c)
		if code != c.want || (code != api.OK) != flat.Equal(f, api.Flat{}) {
			t.Errorf("%d: Lower = %v, %d, want %d", i, f, code, c.want)
		}
		_, wanted := typecheck.Check(c.p)
		if n, code := lower.Weight(c.p); code != wanted || (code != api.OK) != (n == 0) {
			t.Errorf("%d: Weight = %d, %d, want %d", i, n, code, wanted)
		}
	}
}

func TestP18_6RandomErrors(t *testing.T) {
	w := newWriter(186)
	codes := map[api.Code]int{}
	for range 4000 {
		p, c := w.program(), w.costs()
		if w.Intn(4) == 0 {
			c.Arith = pick(w, -1, 101, 1<<40)
		}
		if w.Intn(4) == 0 {
			p.Decls[w.Intn(len(p.Decls))].Name = pick(w, "d0", "d1", "None", "none")
		}
		_, want := typecheck.Check(p)
		_, weighed := lower.Weight(p)
		if weighed != want {
			t.Fatalf("Weight = %d, want %d: %s", weighed, want, printed(p))
		}
		if want == api.OK {
			want = cost.Check(c)
		}
		f, got := lower.Lower(p, c)
		if got != want && !(want == api.OK && got == api.ErrLimit) || got != api.OK && !flat.Equal(f, api.Flat{}) {
			t.Fatalf("Lower = %v, %d, want %d: %v, %s", f, got, want, c, printed(p))
		}
		codes[got]++
	}
	for _, code := range []api.Code{api.OK, api.ErrName, api.ErrRange, api.ErrDuplicate} {
		if codes[code] < 50 {
			t.Errorf("only %d programs with the code %d", codes[code], code)
		}
	}
}
