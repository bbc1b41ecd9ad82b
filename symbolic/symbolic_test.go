package symbolic_test

import (
	"math/rand"
	"slices"
	"testing"

	"keyhole/api"
	"keyhole/flat"
	"keyhole/sample"
	"keyhole/symbolic"
)

func TestP29_1Layout(t *testing.T) {
	many, empty := 0, 0
	check := func(f api.Flat) {
		got, code := symbolic.Layout(f)
		if want := slotsOf(f); !slices.Equal(got, want) || code != api.OK {
			t.Fatalf("Layout = %v, %d, want %v", got, code, want)
		}
		if len(got) > 2 {
			many++
		}
		if slices.ContainsFunc(got, func(s api.Slot) bool { return s.Bits == 0 }) {
			empty++
		}
	}
	each(t, 500, func(f api.Flat, v api.View) { check(f) })
	if many < 100 || empty < 50 {
		t.Errorf("%d with several inputs, %d with an input of one value", many, empty)
	}
	for high := range 70 {
		check(api.Flat{Vars: []api.Var{{Name: "a", Kind: api.Random, Low: -2, High: 0}, {Name: "b", Kind: api.Public, High: 5}, {Name: "c", Kind: api.Secret, Low: -5, High: high - 5}, {Name: "d"}, {Name: "e", Kind: api.Secret, High: 1}}})
	}
	check(api.Flat{Vars: []api.Var{{Name: "a", Kind: api.Secret, Low: -1 << 20, High: -1<<20 + 4095}}})
}

func TestP29_1Examples(t *testing.T) {
	got, code := symbolic.Layout(example2())
	if want := []api.Slot{{Var: 0, First: 0, Bits: 1}, {Var: 1, First: 1, Bits: 2}}; !slices.Equal(got, want) || code != api.OK {
		t.Errorf("Layout = %v, %d", got, code)
	}
	got, code = symbolic.Layout(api.Flat{})
	if len(got) != 0 || code != api.OK {
		t.Errorf("Layout = %v, %d", got, code)
	}
}

func TestP29_2Inverse(t *testing.T) {
	none := 0
	each(t, 500, func(f api.Flat, v api.View) {
		sample.Assignments(bitsOf(f), func(in []bool) {
			inputs, ok := decoded(f, in)
			secret, random, code := symbolic.Decode(f, in)
			if !ok {
				none++
				if secret != nil || random != nil || code != api.ErrRange {
					t.Fatalf("Decode(%v) = %v, %v, %d: %v", in, secret, random, code, f.Vars)
				}
				return
			}
			if !slices.Equal(secret, inputs.Secret) || !slices.Equal(random, inputs.Random) || code != api.OK {
				t.Fatalf("Decode(%v) = %v, %v, %d: %v", in, secret, random, code, f.Vars)
			}
			if got, code := symbolic.Encode(f, secret, random); !slices.Equal(got, in) || code != api.OK {
				t.Fatalf("Encode(%v, %v) = %v, %d: %v", secret, random, got, code, f.Vars)
			}
		})
	})
	if none < 1000 {
		t.Errorf("%d encodings of no input", none)
	}
}

// wide returns a program with more bits than can be executed.
func wide() api.Flat {
	f := api.Flat{}
	for i := range 7 {
		f.Vars = append(f.Vars, api.Var{Name: "s" + string(rune('a'+i)), Kind: api.Secret, Low: 1, High: 3})
	}
	for i := range 5 {
		f.Vars = append(f.Vars, api.Var{Name: "r" + string(rune('a'+i)), Kind: api.Random, Low: -1, High: 1})
	}
	f.Vars = append(f.Vars, api.Var{Name: "p", Kind: api.Public, High: 1})
	return f
}

// bits returns a program with so many bits, of which one is random.
func bits(count int) api.Flat {
	return api.Flat{Vars: []api.Var{{Name: "s", Kind: api.Secret, High: 1<<(count-1) - 1}, {Name: "r", Kind: api.Random, High: 1}}}
}

func TestP29_2Wide(t *testing.T) {
	f := wide()
	slots, code := symbolic.Layout(f)
	if !slices.Equal(slots, slotsOf(f)) || code != api.OK {
		t.Errorf("Layout = %v, %d", slots, code)
	}
	secret, random := []int{1, 2, 3, 1, 2, 3, 3}, []int{-1, 0, 1, 1, -1}
	in, code := symbolic.Encode(f, secret, random)
	if len(in) != 24 || code != api.OK {
		t.Errorf("Encode = %v, %d", in, code)
	}
	s, r, code := symbolic.Decode(f, in)
	if !slices.Equal(s, secret) || !slices.Equal(r, random) || code != api.OK {
		t.Errorf("Decode = %v, %v, %d", s, r, code)
	}
	in[22], in[23] = true, true
	if s, r, code := symbolic.Decode(f, in); s != nil || r != nil || code != api.ErrRange {
		t.Errorf("Decode = %v, %v, %d", s, r, code)
	}
}

func TestP29_2Errors(t *testing.T) {
	f, bad := example2(), api.Flat{Vars: []api.Var{{Name: "X"}}}
	for _, c := range []struct {
		f              api.Flat
		secret, random []int
		code           api.Code
	}{
		{bad, nil, nil, api.ErrName}, {bad, []int{9}, nil, api.ErrName},
		{f, nil, []int{0}, api.ErrMismatch}, {f, []int{0, 0}, []int{0}, api.ErrMismatch}, {f, []int{9}, nil, api.ErrRange}, {f, []int{-1}, []int{0}, api.ErrRange}, {f, []int{2}, []int{0}, api.ErrRange},
		{f, nil, []int{9}, api.ErrMismatch}, {f, []int{1}, nil, api.ErrMismatch}, {f, []int{1}, []int{0, 9}, api.ErrMismatch}, {f, []int{1}, []int{-1}, api.ErrRange}, {f, []int{1}, []int{3}, api.ErrRange}, {f, []int{1}, []int{2}, api.OK},
	} {
		if in, code := symbolic.Encode(c.f, c.secret, c.random); code != c.code || code != api.OK && in != nil {
			t.Errorf("Encode(%v, %v) = %v, %d, want %d", c.secret, c.random, in, code, c.code)
		}
	}
	for _, c := range []struct {
		f    api.Flat
		in   []bool
		code api.Code
	}{
		{bad, nil, api.ErrName}, {f, nil, api.ErrMismatch}, {f, []bool{true, true}, api.ErrMismatch}, {f, []bool{false, true, true, false}, api.ErrMismatch}, {f, []bool{false, true, true}, api.ErrRange}, {f, []bool{false, true, false}, api.OK}, {api.Flat{}, nil, api.OK},
	} {
		if s, r, code := symbolic.Decode(c.f, c.in); code != c.code || code != api.OK && (s != nil || r != nil) {
			t.Errorf("Decode(%v) = %v, %v, %d, want %d", c.in, s, r, code, c.code)
		}
	}
}

func TestP29_3Domain(t *testing.T) {
	part := 0
	each(t, 500, func(f api.Flat, v api.View) {
		got, code := symbolic.Domain(f)
		want := binary(ofInputs(f, v.Public, 0, func(in api.Inputs) int { return 1 }))
		if !isBdd(got, want) || code != api.OK {
			t.Fatalf("Domain = %v, %d, want %v: %v", got, code, want, f.Vars)
		}
		if len(got.Nodes) > 0 {
			part++
		}
	})
	if part < 500 {
		t.Errorf("%d domains that are not everything", part)
	}
}

func TestP29_4Examples(t *testing.T) {
	m, code := symbolic.Run(example1(), api.View{Timed: true})
	want := api.Map{
		Seen:    []api.Observation{{Outputs: []int{0}, Time: 1}, {Outputs: []int{1}, Time: 1}},
		Diagram: api.Mtbdd{Vars: 2, Leaves: []int{-1, 0, 1}, Nodes: []api.Fork{{Var: 1, Low: 1, High: 2}, {Var: 1, Low: 1, High: 0}, {Var: 0, Low: 3, High: 4}}, Root: 5},
	}
	if !isMap(m, want) || code != api.OK {
		t.Errorf("Run = %v, %d", m, code)
	}
	want.Seen[0].Time, want.Seen[1].Time = 0, 0
	if m, code := symbolic.Run(example1(), api.View{}); !isMap(m, want) || code != api.OK {
		t.Errorf("Run = %v, %d", m, code)
	}
	m, code = symbolic.Run(api.Flat{}, api.View{Timed: true})
	if !isMap(m, api.Map{Seen: []api.Observation{{}}, Diagram: api.Mtbdd{Leaves: []int{0}}}) || code != api.OK {
		t.Errorf("Run = %v, %d", m, code)
	}
}

func TestP29_4Run(t *testing.T) {
	several, timed := 0, 0
	each(t, 3000, func(f api.Flat, v api.View) {
		m, code := symbolic.Run(f, v)
		want := runModel(f, v)
		if !isMap(m, want) || code != api.OK {
			t.Fatalf("Run(%v) = %v, %d, want %v: %+v", v, m, code, want, f)
		}
		if len(m.Seen) > 3 {
			several++
		}
		if len(m.Seen) > 1 && v.Timed && slices.Equal(m.Seen[0].Outputs, m.Seen[1].Outputs) {
			timed++
		}
	})
	if several < 300 || timed < 200 {
		t.Errorf("%d with several observations, %d with several times", several, timed)
	}
}

// TestP29_4Public has several public inputs between others.
func TestP29_4Public(t *testing.T) {
	f := api.Flat{
		Vars: []api.Var{{Name: "p", Kind: api.Public, High: 3}, {Name: "s", Kind: api.Secret, High: 2}, {Name: "q", Kind: api.Public, Low: -3, High: 3}, {Name: "x", High: 9}, {Name: "o", Kind: api.Public, High: 1}},
		Body: []api.Step{set(3, op(api.OpMul, ref(0), ref(1))), output(ref(3)), output(op(api.OpAdd, ref(1), ref(2))), output(ref(4))},
	}
	for p := range 4 {
		for q := -3; q < 4; q++ {
			v := api.View{Public: []int{p, q, (p + q) & 1}}
			m, code := symbolic.Run(f, v)
			if want := runModel(f, v); !isMap(m, want) || code != api.OK {
				t.Errorf("Run(%v) = %v, %d, want %v", v, m, code, want)
			}
		}
	}
}

func TestP29_5Final(t *testing.T) {
	changing := 0
	each(t, 400, func(f api.Flat, v api.View) {
		for x := range f.Vars {
			a, code := symbolic.Final(f, v, x)
			want := ofInputs(f, v.Public, 0, func(in api.Inputs) int {
				values, _ := flat.Final(f, in)
				return values[x]
			})
			if !isMtbdd(a, want) || code != api.OK {
				t.Fatalf("Final(%v, %d) = %v, %d, want %v: %+v", v, x, a, code, want, f)
			}
			if len(a.Leaves) > 2 {
				changing++
			}
		}
	})
	if changing < 1000 {
		t.Errorf("%d variables with several values", changing)
	}
}

func TestP29_6Count(t *testing.T) {
	if n, code := symbolic.Count(example1(), api.View{Timed: true}); n != 2 || code != api.OK {
		t.Errorf("Count = %d, %d", n, code)
	}
	if n, code := symbolic.Count(example2(), api.View{}); n != 4 || code != api.OK {
		t.Errorf("Count = %d, %d", n, code)
	}
	each(t, 500, func(f api.Flat, v api.View) {
		if n, code := symbolic.Count(f, v); n != len(runModel(f, v).Seen) || code != api.OK {
			t.Fatalf("Count(%v) = %d, %d: %+v", v, n, code, f)
		}
	})
}

// observations calls visit with what can be seen and with what cannot.
func observations(f api.Flat, v api.View, visit func(o api.Observation)) {
	visit(api.Observation{})
	visit(api.Observation{Outputs: []int{1 << 40}, Time: -1})
	for _, o := range runModel(f, v).Seen {
		visit(o)
		visit(api.Observation{Outputs: o.Outputs, Time: o.Time + 1})
		visit(api.Observation{Outputs: append(slices.Clone(o.Outputs), 0), Time: o.Time})
	}
}

func TestP29_7Secrets(t *testing.T) {
	some, all := 0, 0
	each(t, 400, func(f api.Flat, v api.View) {
		observations(f, v, func(o api.Observation) {
			b, code := symbolic.Secrets(f, v, o)
			want := binary(countsModel(f, v, o))
			if !isBdd(b, want) || code != api.OK {
				t.Fatalf("Secrets(%v, %v) = %v, %d, want %v: %+v", v, o, b, code, want, f)
			}
			if len(b.Nodes) > 0 {
				some++
			} else if b.Root == 1 {
				all++
			}
		})
	})
	if some < 1000 || all < 20 {
		t.Errorf("%d with some secrets, %d with all encodings", some, all)
	}
}

func TestP29_8Examples(t *testing.T) {
	for x, want := range []api.Mtbdd{
		{Vars: 1, Leaves: []int{0, 1}, Nodes: []api.Fork{{Var: 0, Low: 1, High: 0}}, Root: 2}, {Vars: 1, Leaves: []int{1}}, {Vars: 1, Leaves: []int{1}}, {Vars: 1, Leaves: []int{0, 1}, Nodes: []api.Fork{{Var: 0, Low: 0, High: 1}}, Root: 2}, {Vars: 1, Leaves: []int{0}},
	} {
		a, code := symbolic.Multiplicity(example2(), api.View{}, api.Observation{Outputs: []int{x}})
		if !isMtbdd(a, want) || code != api.OK {
			t.Errorf("Multiplicity of %d = %v, %d", x, a, code)
		}
	}
}

func TestP29_8Multiplicity(t *testing.T) {
	several := 0
	each(t, 400, func(f api.Flat, v api.View) {
		observations(f, v, func(o api.Observation) {
			a, code := symbolic.Multiplicity(f, v, o)
			want := countsModel(f, v, o)
			if !isMtbdd(a, want) || code != api.OK {
				t.Fatalf("Multiplicity(%v, %v) = %v, %d, want %v: %+v", v, o, a, code, want, f)
			}
			if len(a.Leaves) > 2 || len(a.Leaves) == 2 && a.Leaves[1] > 1 {
				several++
			}
		})
	})
	if several < 100 {
		t.Errorf("%d with several numbers", several)
	}
}

// calls calls each function with a view, and returns the codes. It fails if there is a result with an error.
func calls(t *testing.T, f api.Flat, v api.View, x int) []api.Code {
	t.Helper()
	m, code1 := symbolic.Run(f, v)
	a, code2 := symbolic.Final(f, v, x)
	n, code3 := symbolic.Count(f, v)
	b, code4 := symbolic.Secrets(f, v, api.Observation{})
	c, code5 := symbolic.Multiplicity(f, v, api.Observation{})
	codes := []api.Code{code1, code2, code3, code4, code5}
	for i, isZero := range []bool{isMap(m, api.Map{}), isMtbdd(a, api.Mtbdd{}), n == 0, isBdd(b, api.Bdd{}), isMtbdd(c, api.Mtbdd{})} {
		if codes[i] != api.OK && !isZero {
			t.Errorf("the result of function %d is not zero: %d", i, codes[i])
		}
	}
	return codes
}

func TestP29_4Errors(t *testing.T) {
	public := func(f api.Flat) api.Flat {
		f.Vars = append(f.Vars, api.Var{Name: "p", Kind: api.Public, Low: 2, High: 3}, api.Var{Name: "q", Kind: api.Public, Low: -1, High: -1})
		return f
	}
	f, bad := public(example2()), public(api.Flat{Vars: []api.Var{{Name: "X"}}})
	for i, c := range []struct {
		f     api.Flat
		v     []int
		x     int
		code  api.Code
		final api.Code
	}{
		{bad, nil, 9, api.ErrName, api.ErrName}, {bad, []int{2, -1}, 9, api.ErrName, api.ErrName},
		{f, nil, 0, api.ErrMismatch, api.ErrMismatch}, {f, []int{2}, 0, api.ErrMismatch, api.ErrMismatch}, {f, []int{9, 9, 9}, 9, api.ErrMismatch, api.ErrMismatch}, {example2(), []int{0}, 0, api.ErrMismatch, api.ErrMismatch},
		{f, []int{1, -1}, 0, api.ErrRange, api.ErrRange}, {f, []int{4, -1}, 0, api.ErrRange, api.ErrRange}, {f, []int{2, 0}, 0, api.ErrRange, api.ErrRange}, {f, []int{2, -2}, 9, api.ErrRange, api.ErrRange},
		{f, []int{2, -1}, 0, api.OK, api.OK}, {f, []int{3, -1}, 3, api.OK, api.OK}, {f, []int{3, -1}, 4, api.OK, api.ErrRange}, {f, []int{3, -1}, -1, api.OK, api.ErrRange},
		{wide(), nil, 9, api.ErrMismatch, api.ErrMismatch}, {wide(), []int{2}, 9, api.ErrRange, api.ErrRange}, {wide(), []int{1}, 0, api.ErrLimit, api.ErrLimit}, {wide(), []int{1}, 99, api.ErrLimit, api.ErrLimit},
	} {
		for j, code := range calls(t, c.f, api.View{Public: c.v}, c.x) {
			want := c.code
			if j == 1 {
				want = c.final
			}
			if code != want {
				t.Errorf("%d: function %d returns %d, want %d", i, j, code, want)
			}
		}
	}
}

func TestP29_3Errors(t *testing.T) {
	for i, c := range []struct {
		f    api.Flat
		code api.Code
	}{{api.Flat{Vars: []api.Var{{Name: "X"}}}, api.ErrName}, {wide(), api.ErrLimit}, {bits(12), api.OK}, {bits(13), api.ErrLimit}, {api.Flat{Vars: wide().Vars[1:7]}, api.OK}, {api.Flat{Vars: wide().Vars[:7]}, api.ErrLimit}} {
		if b, code := symbolic.Domain(c.f); code != c.code || code != api.OK && !isBdd(b, api.Bdd{}) {
			t.Errorf("%d: Domain = %v, %d", i, b, code)
		}
	}
}

// TestP29_4Limits has programs with as many bits, vectors, steps, outputs and as much time as there may be.
func TestP29_4Limits(t *testing.T) {
	secret := func(high int) api.Var { return api.Var{Name: "s", Kind: api.Secret, High: high} }
	for i, f := range []api.Flat{
		{Vars: []api.Var{secret(4095)}, Body: []api.Step{output(ref(0)), output(op(api.OpMod, ref(0), lit(7)))}},
		{Vars: []api.Var{{Name: "r", Kind: api.Random, Low: -255}, secret(15)}, Body: []api.Step{output(op(api.OpAdd, ref(0), ref(1))), wait(1 << 26)}},
		{Vars: []api.Var{secret(2500), {Name: "x", High: 9999}}, Body: []api.Step{
			set(1, ref(0)),
			loop(20, op(api.OpNe, ref(1), lit(1)), costly(1, test(op(api.OpMod, ref(1), lit(2)), []api.Step{costly(2, set(1, op(api.OpAdd, op(api.OpMin, op(api.OpMul, lit(3), op(api.OpMin, ref(1), lit(3000))), lit(9999)), lit(1))))}, []api.Step{set(1, op(api.OpDiv, ref(1), lit(2)))}))),
			output(ref(1)), sample.Settle(0, 20, 30, 45),
		}},
		{Vars: []api.Var{secret(15), {Name: "x", High: 15}}, Body: []api.Step{set(1, ref(0)), loop(2046, lit(1), costly(1, set(1, op(api.OpMod, op(api.OpAdd, op(api.OpMul, ref(1), lit(5)), ref(0)), lit(16))))), output(ref(1))}},
		{Vars: []api.Var{secret(255)}, Body: []api.Step{loop(8, lit(1), output(ref(0)))}},
		{Vars: []api.Var{secret(1023), {Name: "x", High: 2000}}, Body: []api.Step{loop(300, op(api.OpLt, ref(1), ref(0)), costly(7, set(1, op(api.OpAdd, ref(1), lit(5)))))}},
	} {
		if code := flat.Check(f); code != api.OK {
			t.Fatalf("%d: Check = %d", i, code)
		}
		for _, timed := range []bool{false, true} {
			v := api.View{Timed: timed}
			m, code := symbolic.Run(f, v)
			if want := runModel(f, v); !isMap(m, want) || code != api.OK {
				t.Errorf("%d: Run(%t) has %d observations, the code is %d; want %d", i, timed, len(m.Seen), code, len(want.Seen))
			}
		}
	}
}

func TestP29_4LongWaits(t *testing.T) {
	f := api.Flat{Vars: []api.Var{{Name: "s", Kind: api.Secret, High: 2}}, Body: []api.Step{test(ref(0), []api.Step{wait(1<<26 - 7)}, []api.Step{wait(1<<20 + 1)}), costly(7, output(lit(1)))}}
	m, code := symbolic.Run(f, api.View{Timed: true})
	if !isMap(m, runModel(f, api.View{Timed: true})) || len(m.Seen) != 2 || code != api.OK {
		t.Errorf("Run = %v, %d", m, code)
	}
}

// TestMemory checks that arguments stay as they are, that results share no memory with them, and that the parts of a result share none.
func TestMemory(t *testing.T) {
	r := rand.New(rand.NewSource(29))
	for range 200 {
		f := program(r)
		v := view(r, f)
		twin := api.Flat{Vars: slices.Clone(f.Vars), Hatches: slices.Clone(f.Hatches), Body: movedSteps(f.Body, sample.Range(0, len(f.Vars), 1))}
		public := slices.Clone(v.Public)
		m, _ := symbolic.Run(f, v)
		if len(m.Seen) == 0 {
			t.Fatal("no observations")
		}
		o := api.Observation{Outputs: slices.Clone(m.Seen[0].Outputs), Time: m.Seen[0].Time}
		symbolic.Secrets(f, v, o)
		symbolic.Multiplicity(f, v, o)
		symbolic.Final(f, v, 0)
		if !flat.Equal(f, twin) || !slices.Equal(v.Public, public) || !isSame(o)(m.Seen[0]) {
			t.Fatalf("arguments are changed: %+v, %v", f, v)
		}
		for i := range m.Seen {
			for j := range m.Seen[i].Outputs {
				m.Seen[i].Outputs[j] = -99 - i
			}
			_ = append(m.Seen[i].Outputs, -99)
		}
		for i := range m.Seen {
			if slices.ContainsFunc(m.Seen[i].Outputs, func(x int) bool { return x != -99-i }) {
				t.Fatalf("observations share memory")
			}
		}
		if again, _ := symbolic.Run(f, v); !isMap(again, runModel(f, v)) {
			t.Fatalf("results are shared: %+v", f)
		}
	}
}
