package flat_test

import (
	"fmt"
	"slices"
	"strconv"
	"strings"
	"testing"

	"keyhole/api"
	"keyhole/flat"
)

func TestP17_7Examples(t *testing.T) {
	for i, c := range []struct {
		f    api.Flat
		want string
	}{
		{api.Flat{}, "begin\n"}, {api.Flat{Vars: []api.Var{{Name: "X"}}}, ""}, {api.Flat{Body: []api.Step{{Do: api.Wait, Cost: -1}}}, ""},
		{first(), "secret x 0 3\nlocal y 0 2 = 1\nbegin\n  assign 2 y (+ x 1)\n  output 1 y\n  wait 5\n  settle 0 4 10 20\n"},
		{whole(), `secret x -2 5
local y 0 9 = 3
public p 1 4
random r 0 1
hatch h -1 1 (- x p)
hatch h.2 7 7 0
begin
  assign 1 y (* x p)
  if 2 (> y 4)
    output 3 y
  else
    wait 4
    release 5 y h.2
  loop 6 3 y
    assign 7 y (- y 1)
  settle 8 20 50
`},
		{api.Flat{Vars: []api.Var{{Name: "v.0_", Low: -7, High: -5, Init: -6}}, Body: []api.Step{
			{Do: api.If, Term: lit(-1)}, {Do: api.If, Cost: 1, Else: []api.Step{{Do: api.Loop, Cost: 10000}}}, {Do: api.If, Then: []api.Step{{Do: api.If, Then: []api.Step{{Do: api.Wait}}}}, Else: []api.Step{{Do: api.Wait, Cost: 1 << 20}}},
		}}, "local v.0_ -7 -5 = -6\nbegin\n  if 0 -1\n  if 1 0\n  else\n    loop 10000 0 0\n  if 0 0\n    if 0 0\n      wait 0\n  else\n    wait 1048576\n"},
	} {
		if got := flat.Text(c.f); got != c.want {
			t.Errorf("%d: Text = %q, want %q", i, got, c.want)
		}
	}
}

func TestP17_7Operators(t *testing.T) {
	signs := strings.Fields("neg not + - * / % == != < <= > >= and or min max if select")
	vars := []api.Var{{Name: "a", High: 1}, {Name: "b", High: 1}}
	for i, o := range operators {
		term, want := api.Term{Op: o.op}, "("+signs[i]
		for k := range o.kids {
			term.Kids = append(term.Kids, []api.Term{ref(0), lit(-3), op(api.OpNeg, ref(1))}[k])
			want += []string{" a", " -3", " (neg b)"}[k]
		}
		want = "local a 0 1 = 0\nlocal b 0 1 = 0\nbegin\n  output 0 " + want + ")\n"
		if got := flat.Text(api.Flat{Vars: vars, Body: []api.Step{{Do: api.Output, Term: term}}}); got != want {
			t.Errorf("Text = %q, want %q", got, want)
		}
	}
	long := api.Term{Op: api.OpSelect, Kids: slices.Repeat([]api.Term{ref(0)}, 33)}
	want := "local a 0 1 = 0\nbegin\n  output 0 (select" + strings.Repeat(" a", 33) + ")\n"
	if got := flat.Text(api.Flat{Vars: vars[:1], Body: []api.Step{{Do: api.Output, Term: long}}}); got != want {
		t.Errorf("Text = %q, want %q", got, want)
	}
}

// termText and stepsText write as the chapter says.
func termText(f api.Flat, t api.Term) string {
	if t.Op == api.OpLit {
		return fmt.Sprint(t.N)
	}
	if t.Op == api.OpRef {
		return f.Vars[t.N].Name
	}
	text := "(" + strings.Fields("neg not + - * / % == != < <= > >= and or min max if 0 select")[t.Op-api.OpNeg]
	for _, kid := range t.Kids {
		text += " " + termText(f, kid)
	}
	return text + ")"
}

func stepsText(f api.Flat, list []api.Step, margin string) string {
	text := ""
	for _, s := range list {
		text += margin
		switch s.Do {
		case api.Assign:
			text += fmt.Sprintf("assign %d %s %s\n", s.Cost, f.Vars[s.Var].Name, termText(f, s.Term))
		case api.Output:
			text += fmt.Sprintf("output %d %s\n", s.Cost, termText(f, s.Term))
		case api.Wait:
			text += fmt.Sprintf("wait %d\n", s.Cost)
		case api.If:
			text += fmt.Sprintf("if %d %s\n", s.Cost, termText(f, s.Term)) + stepsText(f, s.Then, margin+"  ")
			if other := stepsText(f, s.Else, margin+"  "); other != "" {
				text += margin + "else\n" + other
			}
		case api.Loop:
			text += fmt.Sprintf("loop %d %d %s\n", s.Cost, s.N, termText(f, s.Term)) + stepsText(f, s.Then, margin+"  ")
		case api.Release:
			text += fmt.Sprintf("release %d %s %s\n", s.Cost, f.Vars[s.Var].Name, f.Hatches[s.N].Name)
		case api.Settle:
			text += fmt.Sprintf("settle %d %s\n", s.Cost, strings.Trim(fmt.Sprint(s.Bounds), "[]"))
		}
	}
	return text
}

func textModel(f api.Flat) string {
	text := ""
	for _, v := range f.Vars {
		switch v.Kind {
		case api.Local:
			text += fmt.Sprintf("local %s %d %d = %d\n", v.Name, v.Low, v.High, v.Init)
		default:
			text += fmt.Sprintf("%s %s %d %d\n", map[api.Kind]string{api.Secret: "secret", api.Public: "public", api.Random: "random"}[v.Kind], v.Name, v.Low, v.High)
		}
	}
	for _, h := range f.Hatches {
		text += fmt.Sprintf("hatch %s %d %d %s\n", h.Name, h.Low, h.High, termText(f, h.Term))
	}
	return text + "begin\n" + stepsText(f, f.Body, "  ")
}

func TestP17_7Model(t *testing.T) {
	g := newGenerator(177)
	texts, valid := map[string]api.Flat{}, 0
	for i := range 15000 {
		f := clone(g.program(), i%2 == 0)
		for range g.Intn(3) {
			g.disturb(&f)
		}
		want := ""
		if checkModel(f) == api.OK {
			want = textModel(f)
			valid++
		}
		text := flat.Text(f)
		if text != want {
			t.Fatalf("Text = %q, want %q: %+v", text, want, f)
		}
		if text == "" {
			continue
		}
		// Two programs with one text are equal; the program can even be read from it.
		if other, ok := texts[text]; ok && !flat.Equal(f, other) {
			t.Fatalf("%+v and %+v have the text %q", f, other, text)
		}
		texts[text] = f
		if back := readProgram(text); !flat.Equal(back, f) {
			t.Fatalf("%+v is read from %q, which is the text of %+v", back, text, f)
		}
	}
	if valid < 6000 || len(texts) < 4000 {
		t.Errorf("only %d valid programs, %d texts", valid, len(texts))
	}
}

// textReader reads the texts of programs.
type textReader struct {
	lines [][]string // their words; the first one is the margin
	f     api.Flat
}

// readProgram returns the program with a text.
func readProgram(text string) api.Flat {
	var r textReader
	for _, line := range strings.Split(strings.TrimSuffix(text, "\n"), "\n") {
		rest := strings.TrimLeft(line, " ")
		rest = strings.ReplaceAll(strings.ReplaceAll(rest, "(", "( "), ")", " )")
		r.lines = append(r.lines, append([]string{line[:len(line)-len(strings.TrimLeft(line, " "))]}, strings.Split(rest, " ")...))
	}
	for ; r.lines[0][1] != "begin"; r.lines = r.lines[1:] {
		words := r.lines[0][1:]
		low, high := atoi(words[2]), atoi(words[3])
		switch words[0] {
		case "hatch":
			term, _ := r.term(words[4:])
			r.f.Hatches = append(r.f.Hatches, api.Hatch{Name: words[1], Low: low, High: high, Term: term})
		case "local":
			r.f.Vars = append(r.f.Vars, api.Var{Name: words[1], Low: low, High: high, Init: atoi(words[5])})
		default:
			kind := map[string]api.Kind{"secret": api.Secret, "public": api.Public, "random": api.Random}[words[0]]
			r.f.Vars = append(r.f.Vars, api.Var{Name: words[1], Kind: kind, Low: low, High: high})
		}
	}
	r.lines = r.lines[1:]
	r.f.Body = r.steps("  ")
	return r.f
}

func atoi(word string) int {
	n, err := strconv.Atoi(word)
	if err != nil {
		panic(err)
	}
	return n
}

// variable returns the index of the variable with a name.
func (r *textReader) variable(name string) int {
	return slices.IndexFunc(r.f.Vars, func(v api.Var) bool { return v.Name == name })
}

// term returns the term with which the words begin, and the other words.
func (r *textReader) term(words []string) (api.Term, []string) {
	if words[0] != "(" {
		if i := r.variable(words[0]); i >= 0 {
			return ref(i), words[1:]
		}
		return lit(atoi(words[0])), words[1:]
	}
	i := slices.Index(strings.Fields("neg not + - * / % == != < <= > >= and or min max if select"), words[1])
	t := api.Term{Op: operators[i].op}
	words = words[2:]
	for words[0] != ")" {
		var kid api.Term
		kid, words = r.term(words)
		t.Kids = append(t.Kids, kid)
	}
	return t, words[1:]
}

// steps returns the steps of the next lines that have the margin or a wider one.
func (r *textReader) steps(margin string) []api.Step {
	var list []api.Step
	for len(r.lines) > 0 && r.lines[0][0] == margin && r.lines[0][1] != "else" {
		words := r.lines[0][1:]
		r.lines = r.lines[1:]
		s := api.Step{Cost: atoi(words[1])}
		switch words[0] {
		case "assign":
			s.Var = r.variable(words[2])
			s.Term, _ = r.term(words[3:])
		case "output":
			s.Do = api.Output
			s.Term, _ = r.term(words[2:])
		case "wait":
			s.Do = api.Wait
		case "if":
			s.Do = api.If
			s.Term, _ = r.term(words[2:])
			s.Then = r.steps(margin + "  ")
			if len(r.lines) > 0 && r.lines[0][0] == margin && r.lines[0][1] == "else" {
				r.lines = r.lines[1:]
				s.Else = r.steps(margin + "  ")
			}
		case "loop":
			s.Do, s.N = api.Loop, atoi(words[2])
			s.Term, _ = r.term(words[3:])
			s.Then = r.steps(margin + "  ")
		case "release":
			s.Do, s.Var = api.Release, r.variable(words[2])
			s.N = slices.IndexFunc(r.f.Hatches, func(h api.Hatch) bool { return h.Name == words[3] })
		default:
			s.Do = api.Settle
			for _, word := range words[2:] {
				s.Bounds = append(s.Bounds, atoi(word))
			}
		}
		list = append(list, s)
	}
	return list
}
