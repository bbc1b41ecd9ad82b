package lower_test

import (
	"slices"
	"strings"
	"testing"

	"keyhole/api"
	"keyhole/cost"
	"keyhole/flat"
	"keyhole/interp"
	"keyhole/lower"
)

// prices is a cost model from whose sums one sees what was added.
var prices = api.Costs{Assign: 1, Branch: 2, Loop: 3, Call: 5, Output: 7, Release: 11, Load: 13, Index: 17, Arith: 19, Multiply: 23, Divide: 29, Compare: 31, Logic: 37}

// dearest is the cost model with the greatest entries.
var dearest = api.Costs{Assign: 100, Branch: 100, Loop: 100, Call: 100, Output: 100, Release: 100, Load: 100, Index: 100, Arith: 100, Multiply: 100, Divide: 100, Compare: 100, Logic: 100}

const guess = "secret pin: array 2 of bool; public i: int[0..5]; var x: int[0..3]; begin if pin[i] { x = 2; } output x; end"

func TestP18_2Example(t *testing.T) {
	f, code := lower.Lower(parse(t, guess), api.Costs{Branch: 1})
	if code != api.OK {
		t.Fatalf("Lower = %d", code)
	}
	want := []api.Var{{Name: "pin.0", Kind: api.Secret, High: 1}, {Name: "pin.1", Kind: api.Secret, High: 1}, {Name: "i", Kind: api.Public, High: 5}}
	if got := slices.DeleteFunc(slices.Clone(f.Vars), func(v api.Var) bool { return v.Kind == api.Local }); !slices.Equal(got, want) {
		t.Errorf("the inputs are %v", got)
	}
	for k := range 24 {
		in := api.Inputs{Secret: []int{k & 1, k >> 1 & 1}, Public: []int{k >> 2}}
		wanted := 0
		if in.Secret[min(k>>2, 1)] == 1 {
			wanted = 2
		}
		if seen, code := flat.Run(f, in); code != api.OK || !slices.Equal(seen.Outputs, []int{wanted}) || seen.Time != 1 {
			t.Errorf("Run with %v = %v, %d", in, seen, code)
		}
	}
}

// The inputs stand in the order of the declarations, whatever their kinds are, and variables and hatches may stand between.
func TestP18_2Order(t *testing.T) {
	p := parse(t, "type pair = record {b: int[-2..1], a: array 2 of bool}; random r: int[1..2]; var v: pair; public p: pair; hatch h: bool = p.a[r]; "+
		"secret s: array 2 of int[3..4]; func f(x: pair): pair { return x; } random q: bool; secret abcdefghijkl: bool; begin v = call f(p); output v.b; end")
	f := expectLowered(t, newWriter(1), p, prices, 1000)
	var names []string
	for _, v := range f.Vars {
		if v.Kind != api.Local {
			names = append(names, v.Name)
		}
	}
	if !slices.Equal(names, []string{"r", "p.b", "p.a.0", "p.a.1", "s.0", "s.1", "q", "abcdefghijkl"}) {
		t.Errorf("the inputs are %v", names)
	}
}

// statements are programs whose statements depend on what they assign, or on the order in which things are done.
var statements = []string{
	// An index or a value depends on what is assigned.
	"secret i: int[-1..3]; var a: array 3 of int[0..3] = 1; begin a[i] = 2; a[a[i]] = i; a[a[0]] = a[a[1]] + 1; a[a[a[2]]] = a[a[a[0]]]; output a[0] * 16 + a[1] * 4 + a[2]; end",
	"secret i: int[0..2]; var a: array 3 of int[0..3]; begin a[0] = 2; a[1] = 0; a[2] = 1; a[i] = a[a[i]]; a[a[i]] = a[i]; a[a[0]] = i; output a[0] * 16 + a[1] * 4 + a[2]; end",
	"secret i: int[0..2]; var a: array 3 of int[0..2] = 2; begin a[0] = i; a[a[0]] = 1; output a[0] * 9 + a[1] * 3 + a[2]; a[1] = i; a[a[1]] = 2; output a[0] * 9 + a[1] * 3 + a[2]; a[2] = i; a[a[2]] = 0; output a[0] * 9 + a[1] * 3 + a[2]; end",
	// An aggregate is read as a whole before it is assigned.
	"secret i: int[0..1]; var a: array 2 of record {x: int[0..1], y: int[0..3]}; begin a[i].x = 1; a[0].y = 2; a[1].y = 3; a[0] = a[a[0].x]; output a[0].x * 4 + a[0].y; a[i] = a[a[i].x]; output a[0].x * 4 + a[0].y; output a[1].x * 4 + a[1].y; a[a[1].x] = a[a[0].x]; output a[0].x * 4 + a[0].y; output a[1].x * 4 + a[1].y; end",
	"secret i: int[0..2]; secret j: int[0..2]; var a: array 3 of array 2 of int[0..9] = 4; begin a[i][j] = 7; a[j][i] = 2; a[j] = a[i]; a[a[i][0]] = a[a[j][1]]; for k = 0 to 2 { output a[k][0] * 10 + a[k][1]; } end",
	"secret i: int[0..1]; var r: record {x: int[0..1], y: int[0..3], z: array 2 of record {x: int[0..1], y: int[0..3], w: bool}}; var q: record {x: int[0..1], y: int[0..3], w: bool}; begin r.z[i].x = 1; r.z[1].y = 3; r.z[0] = r.z[r.z[0].x]; q = r.z[r.z[i].x]; r.z[q.x] = q; output q.y; output r.z[0].y; output r.z[1].y; end",
	// Arrays in arrays and records, with indices below and above their bounds.
	"secret i: int[-9..9]; secret j: int[-2..2]; var a: array 2 of record {f: array 3 of array 1 of int[0..99], g: bool} = 1; begin a[i].f[j][i] = 50; a[j].f[i][j] = a[i].f[j][0] + 7; a[i].g = a[0].f[1][0] > a[1].f[j][5]; output a[0].f[0][0]; output a[1].f[j][0]; output a[i].g; output a[5].f[9][9]; output a[-i].f[-1][0]; end",
	"secret i: int[-3..3]; var a: array 2 of array 2 of array 2 of bool; begin a[i][i + 1][-i] = true; a[0][i][1] = a[i][1][i]; a[i][1] = a[1][i]; a[i] = a[0]; for k = 0 to 7 { output a[k / 4][k / 2 % 2][k % 2]; } end",
	"secret i: int[0..1]; var a: array 1 of array 2 of array 1 of int[0..3]; begin a[i][i][i] = 3; a[0] = a[i]; output a[7][0][i]; output a[i][1][3]; end",
	// The variable of a for statement is an index within its array, or not.
	"secret s: int[0..3]; var a: array 4 of int[0..20]; begin for i = 0 to 3 { a[i] = i * s; a[s] = a[i] + 1; } for i = 1 to 5 { a[i] = a[i] + i; } for i = -1 to 2 { a[i] = a[i] + a[i + 1]; } for i = 0 to 3 { output a[i]; } end",
	// For statements go up to the greatest numbers, start again, and may have one round.
	"secret s: int[0..2]; var x: int[-1048000..1048576]; begin for i = 1048574 to 1048576 { x = i; if s == 2 { output i / 2; } } for i = -1048576 to -1048575 { x = max(x, i + 9) - 5; } for i = 1048576 to 1048576 { x = min(x, i - 1); } output x; for i = 4 to 4 { output i; } end",
	"secret s: int[1..3]; var x: int[0..999]; begin while x < 40 limit 3 { for i = 1 to 3 { for k = 1 to 2 { x = x + i * k; } x = x + i; } } for i = 1 to 3 { x = x + i; } for i = 1 to 4 { x = x + i * s; } output x; end",
	// Functions start anew at each call, and their results are clamped twice.
	"secret s: int[-9..9]; type r = record {u: bool, v: int[1..9]}; func f(x: int[0..9]): int[0..4] { var w: r = -3; w.v = w.v + x; if w.v > 5 { w.u = false; } return w.u ? w.v : 0 - 7; } var y: int[2..9]; begin for i = 0 to 2 { y = call f(s + i * y); output y; } y = call f(y); output y; end",
	"secret s: int[-9..9]; func f(x: int[0..9]): int[0..4] { return x * 3; } func g(x: int[-99..99]): int[-50..50] { var z: int[0..99]; z = call f(x); x = call f(x - 3); return x * 5 - z; } var y: int[-5..20]; begin y = call g(s); output y; y = call f(y); output y; end",
	"secret s: int[0..3]; func f(a: array 2 of int[0..3], i: int[0..3]): array 2 of int[0..3] { a[i] = a[i - 1] + 1; return a; } var b: array 3 of array 2 of int[0..3] = 2; var n: int[0..3]; begin b[s] = call f(b[s - 1], s); b[b[0][0]] = call f(b[b[1][0]], b[0][1]); for i = 0 to 5 { output b[i / 2][i % 2]; } end",
	"secret s: int[0..3]; func same(i: int[0..9]): int[0..9] { for k = 0 to 2 { i = i + k; } for k = 0 to 1 { i = i - k; } return i; } func f(i: int[0..9]): int[0..9] { var k: array 2 of int[0..9] = 1; k[0] = call same(i); for j = 0 to 1 { k[j] = call same(k[1 - j]); } return k[0]; } var a: array 2 of int[0..9]; begin a[0] = call f(s); a[a[0]] = call same(a[0]); a[s] = call f(a[s]); output a[0]; output a[1]; end",
	"secret s: int[0..3]; func f(p: int[0..99]): int[0..99] { for i = 0 to 2 { p = p * 2 + i; } return p; } var x: int[0..99]; begin for i = 0 to 2 { x = call f(s + i); output x + i; } end",
	"secret s: bool; func f(): bool { output 3; wait 5; return true; } func g(x: bool): bool { if x { x = call f(); } else { wait 1; } return x; } var b: bool; begin b = call g(s); output b; b = call f(); while b limit 2 { b = call g(!s); } end",
	// Hatches are clamped, and released into every place.
	"secret s: int[-9..9]; public a: array 2 of int[0..2]; hatch h: int[-2..4] = s * a[s]; hatch b: bool = a[0] < a[1] && s > 0; var x: array 2 of int[-1..2]; var y: bool; begin x[s] = release h; x[x[0]] = release h; y = release b; if y { x[0] = release h; output x[0]; } output x[1]; output y; end",
	// Both branches, rounds of all numbers, waiting and settling.
	"secret s: int[0..3]; var x: int[0..9] = 9; begin while x > s limit 4 { x = x - 1; if x % 2 == 0 { wait 100; } else { } } while true limit 0 { x = 5; } while false limit 3 { x = 6; } while true limit 2 { x = x + 1; } wait 0; output x; settle 5, 200, 400, 1048576; end",
	"secret s: int[0..2]; begin if s == 0 { wait 1048576; } else { if s == 1 { wait 7; } } settle 0, 9, 100; end",
	"public n: int[0..5]; begin if n > 3 { output n; output true; } output n == 3 || n / 0 == 1; output -n; output n % (n - 3); output n / (n - 6); end",
	// Names of flat variables that could be too long or equal.
	"type r = record {abcdefghijkl: record {abcdefghijkl: array 2 of record {abcdefghijkl: bool, abcdefghijk2: bool}}}; secret s: bool; var abcdefghijkl: r; func f(abcdefghijk3: r): r { return abcdefghijk3; } func f1(p: bool): bool { for i = 0 to 1 { p = !p; } return p; } var t: bool; var x: bool; begin abcdefghijkl.abcdefghijkl.abcdefghijkl[1].abcdefghijk2 = s; abcdefghijkl = call f(abcdefghijkl); t = call f1(abcdefghijkl.abcdefghijkl.abcdefghijkl[1].abcdefghijk2); for i = 0 to 1 { x = t; } for i = 0 to 2 { x = call f1(x); } output t; output x; output abcdefghijkl.abcdefghijkl.abcdefghijkl[0].abcdefghijk2; end",
}

func TestP18_3Statements(t *testing.T) {
	w := newWriter(1831)
	for _, text := range statements {
		p := parse(t, text)
		for _, c := range []api.Costs{{}, prices, cost.Default(), dearest} {
			expectLowered(t, w, p, c, 500)
		}
	}
}

func TestP18_3RandomPrograms(t *testing.T) {
	w := newWriter(183)
	lowered, outputs, settled, hatches := 0, 0, 0, 0
	for range 4000 {
		p, c := w.program(), w.costs()
		f, code := lower.Lower(p, c)
		if code == api.ErrLimit || code == api.ErrRange || code == api.ErrType {
			continue
		}
		expectLowered(t, w, p, c, 8)
		lowered++
		_, most, _, _ := flat.Bounds(f)
		outputs += min(most, 1)
		hatches += min(len(f.Hatches), 1)
		if n := len(f.Body); n > 0 && f.Body[n-1].Do == api.Settle {
			settled++
		}
	}
	if lowered < 3200 || outputs < 1000 || settled < 600 || hatches < 1000 {
		t.Errorf("only %d programs, %d with outputs, %d that settle, %d with hatches", lowered, outputs, settled, hatches)
	}
}

func TestP18_5Hatches(t *testing.T) {
	p := parse(t, "secret s: array 3 of record {x: int[-2..2], y: bool}; public i: int[-1..4]; hatch first: bool = s[i].y; hatch second: int[-1..1] = s[s[i].x].x * 3; hatch third: int[5..9] = s[0].y ? s[i - 1].x + 6 : i; begin end")
	f := expectLowered(t, newWriter(185), p, prices, 6000)
	for i := -1; i <= 4; i++ {
		in := api.Inputs{Secret: []int{-2, 1, 1, 0, 2, 1}, Public: []int{i}}
		want := [][]int{{1, -1, 5}, {1, -1, 5}, {0, 1, 5}, {1, 1, 7}, {1, 1, 8}, {1, 1, 8}}[i+1]
		if got := hatchValues(f, in); !slices.Equal(got, want) {
			t.Errorf("with i = %d the hatches are %v, want %v", i, got, want)
		}
		if got, _ := interp.Hatches(p, in); !slices.Equal(got, want) {
			t.Errorf("with i = %d the hatches of the program are %v, want %v", i, got, want)
		}
	}
}

func TestP18_7Additive(t *testing.T) {
	w := newWriter(187)
	sums := 0
	for range 2500 {
		p, c := w.program(), w.costs()
		if n := len(p.Body); n > 0 && p.Body[n-1].Verb == api.SettleStmt {
			p.Body = p.Body[:n-1]
		}
		a, b := w.split(c)
		var programs []api.Flat
		for _, model := range []api.Costs{c, a, b, {}} {
			if f, code := lower.Lower(p, model); code == api.OK {
				programs = append(programs, f)
			}
		}
		if len(programs) < 4 {
			continue
		}
		for _, in := range w.vectors(p, 5) {
			var seen []api.Observation
			for _, f := range programs {
				o, code := flat.Run(f, in)
				if code != api.OK || len(seen) > 0 && !slices.Equal(o.Outputs, seen[0].Outputs) {
					t.Fatalf("the outputs %v, %d, but %v: %s", o, code, seen, printed(p))
				}
				seen = append(seen, o)
			}
			if seen[0].Time+seen[3].Time != seen[1].Time+seen[2].Time {
				t.Fatalf("the times %v: %v, %v, %s", seen, a, b, printed(p))
			}
		}
		sums++
	}
	if sums < 1800 {
		t.Errorf("only %d sums", sums)
	}
}

// TestSharedVariables has programs that need more variables than there may be if statements and calls did not share them.
func TestSharedVariables(t *testing.T) {
	for text, most := range map[string]int{
		"secret s: int[0..2]; var a: array 3 of int[0..2]; begin " + strings.Repeat("a[s + 1] = a[a[s]] + 1; ", 20) + "output a[s]; end":                                             6,
		"secret s: int[0..2]; func f(a: array 3 of bool): bool { var v: bool; return a[0] || v; } var b: array 3 of bool; begin " + strings.Repeat("b[0] = call f(b); ", 25) + "end": 9,
		"secret s: int[0..2]; hatch h: int[0..1] = s; var a: array 3 of bool; var b: array 3 of int[0..2]; begin " + strings.Repeat("b[-s] = release h; ", 20) + "end":               9,
		"var x: int[0..9]; begin " + strings.Repeat("for i = 0 to 1 { x = x + i; } ", 40) + "end":                                                                                    2,
	} {
		f := expectLowered(t, newWriter(1), parse(t, text), prices, 3)
		if len(f.Vars) > most {
			t.Errorf("%d variables: %s", len(f.Vars), text)
		}
	}
}

// TestFreshMemory changes arguments and results, which nothing else must show.
func TestFreshMemory(t *testing.T) {
	p := parse(t, "secret s: int[0..2]; func f(x: array 2 of int[0..2]): array 2 of int[0..2] { x[0] = x[1] + 1; return x; } hatch h: bool = s > 1; var b: bool; var a: array 3 of array 2 of int[0..2]; "+
		"begin a[s] = call f(a[s]); a[s] = call f(a[s]); b = release h; a[s][s] = a[s + 1][s]; if b { output a[s][0]; } settle 5, 100; end")
	first, _ := lower.Lower(p, prices)
	want := flat.Text(first)
	p.Body[len(p.Body)-1].Numbers[0] = 1
	if got := flat.Text(first); got != want {
		t.Errorf("the result shares memory with the argument: %s", got)
	}
	p.Body[len(p.Body)-1].Numbers[0] = 5
	// After a change of each part in turn no other part must have changed.
	parts := 0
	for _, number := range numbersOf(&first) {
		old := *number
		*number = 9999
		changed := 0
		for _, other := range numbersOf(&first) {
			if *other == 9999 {
				changed++
			}
		}
		*number = old
		parts++
		if changed != 1 {
			t.Fatalf("a change shows at %d places", changed)
		}
	}
	if parts < 150 {
		t.Errorf("only %d parts", parts)
	}
	for _, number := range numbersOf(&first) {
		*number = 7
	}
	if again, code := lower.Lower(p, prices); flat.Text(again) != want || code != api.OK {
		t.Errorf("a later call returns %s", flat.Text(again))
	}
}

// numbersOf returns where the numbers of all terms and bounds of a program are.
func numbersOf(f *api.Flat) []*int {
	var list []*int
	var addTerm func(t *api.Term)
	addTerm = func(t *api.Term) {
		list = append(list, &t.N)
		for i := range t.Kids {
			addTerm(&t.Kids[i])
		}
	}
	var addSteps func(steps []api.Step)
	addSteps = func(steps []api.Step) {
		for i := range steps {
			addTerm(&steps[i].Term)
			for k := range steps[i].Bounds {
				list = append(list, &steps[i].Bounds[k])
			}
			addSteps(steps[i].Then)
			addSteps(steps[i].Else)
		}
	}
	for i := range f.Hatches {
		addTerm(&f.Hatches[i].Term)
	}
	addSteps(f.Body)
	return list
}
