package lower_test

import (
	"strings"
	"testing"

	"keyhole/api"
	"keyhole/lower"
)

func TestP18_8Examples(t *testing.T) {
	for text, want := range map[string]int{
		guess:       4 + (2 + 3*2) + (2 + 1*(1+1)) + (2 + 1),
		"begin end": 0,
		"var a: array 3 of record {x: bool, y: bool}; begin a[1].x = a[2].y; end":                                                                                                    6 + 2 + 1*(4*3+4*3),
		"var a: array 3 of record {x: bool, y: bool}; begin a[1] = a[a[0].y ? 1 : 2]; end":                                                                                           6 + 2 + 2*(3*3+9*3*3),
		"secret s: bool; hatch h: bool = !s && s; var x: array 2 of bool; begin x[1] = release h; wait 5; settle 1; end":                                                             3 + (2 + 4) + (2 + 3*2) + 1 + 1,
		"var x: int[0..9]; begin for i = 0 to 5 { x = i; } while x > 0 limit 7 { x = x - 1; } end":                                                                                   1 + (4 + (2 + 2)) + (2 + 3 + (2 + 1 + 3)),
		"var x: bool; begin if x { wait 1; } else { wait 1; wait 1; } end":                                                                                                           1 + (2 + 1 + 1 + 2),
		"func f(a: array 2 of bool, b: int[0..3]): bool { var c: array 3 of bool; wait 1; return a[b]; } begin end":                                                                  0,
		"func f(): bool { return true; } var x: array 4 of bool; begin x[2] = call f(); x[2] = call f(); end":                                                                        4 + 2*(2+(2+1+3*4)),
		"func f(a: array 2 of bool, b: int[0..3]): bool { var c: array 3 of bool; wait 1; return a[b]; } var d: array 2 of bool; begin d[0] = call f(d, 1 + 2); end":                 2 + 2 + 2*(2+1) + (2 + 3) + 3 + 1 + (2 + 3*2 + 3*2),
		"func f(): array 2 of bool { var c: array 2 of bool; return c; } func g(): bool { var d: array 2 of bool; d = call f(); return d[0]; } var x: bool; begin x = call g(); end": 1 + 2 + 2 + (2 + 2 + 2*(2+1+1)) + (2 + 3*2 + 1),
	} {
		p := parse(t, text)
		if got, code := lower.Weight(p); got != want || code != api.OK {
			t.Errorf("Weight = %d, %d, want %d: %s", got, code, want, text)
		}
	}
}

func TestP18_8RandomPrograms(t *testing.T) {
	w := newWriter(188)
	accepted, heavy := 0, 0
	for range 6000 {
		p := w.program()
		got, code := lower.Weight(p)
		if code != api.OK {
			continue
		}
		if want := measureOf(p).weight(); got != want {
			t.Fatalf("Weight = %d, want %d: %s", got, want, printed(p))
		}
		accepted++
		if got > 300 {
			heavy++
		}
	}
	if accepted < 5000 || heavy < 200 {
		t.Errorf("only %d programs, of which %d are heavy", accepted, heavy)
	}
}

// Weights above 100,000 count as 100,000, and smaller ones are exact.
func TestP18_8Limit(t *testing.T) {
	const a = "var a: array 32 of int[0..31]; begin "
	for _, c := range []struct {
		body string
		want int
	}{
		{"output a[a[a[0]]];", 100_000},
		{"output a[0]" + strings.Repeat(" + a[0]", 9) + "; output a[0] == 1;", 100_000},
		{"output " + strings.ReplaceAll(sumOf(26), "s", "a[1]") + "; output a[0] == 1;", 100_000},
		{"a[a[0]] = 1;", 32 + 2 + 5*1024 + 1},
		{strings.Repeat("output a[a[0]]; ", 8), 32 + 8*(2+5*1024)},
		{strings.Repeat("a[a[0]] = a[0]; ", 19), 32 + 19*(2+5*1024+3*32)},
		{strings.Repeat("a[a[0]] = a[0]; ", 19) + strings.Repeat("wait 1; ", 826), 99_999 + 1},
		{strings.Repeat("a[a[0]] = a[0]; ", 20), 100_000},
	} {
		if got, code := lower.Weight(parse(t, a+c.body+" end")); got != c.want || code != api.OK {
			t.Errorf("Weight = %d, %d, want %d: %s", got, code, c.want, c.body)
		}
	}
}

// TestP18_8ManyCalls has a program that has more statements after all functions are inlined than can be counted one by one.
func TestP18_8ManyCalls(t *testing.T) {
	for _, body := range []string{"if c { c = call f#(c); } else { c = call f#(!c); }", "while c limit 0 { c = call f#(c); c = call f#(!c); c = call f#(c); }"} {
		if got, code := lower.Weight(parse(t, chain(50, body))); got != 100_000 || code != api.OK {
			t.Errorf("Weight = %d, %d: %s", got, code, body)
		}
		p := parse(t, chain(9, body))
		if got, code := lower.Weight(p); got != measureOf(p).weight() || code != api.OK {
			t.Errorf("Weight = %d, %d, want %d: %s", got, code, measureOf(p).weight(), body)
		}
	}
}
