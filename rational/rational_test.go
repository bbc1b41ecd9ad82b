package rational_test

import (
	"math"
	"math/big"
	"math/rand"
	"slices"
	"strings"
	"testing"

	"keyhole/api"
	"keyhole/integer"
	"keyhole/rational"
)

// whole returns the value of x by its definition, whether x is canonical or not.
func whole(x api.Int) *big.Int {
	v := new(big.Int)
	for _, w := range slices.Backward(x.Words) {
		v.Lsh(v, 32)
		v.Or(v, big.NewInt(int64(w)))
	}
	if x.Negative {
		v.Neg(v)
	}
	return v
}

// value returns the value of x by its definition, whether x is canonical or not.
func value(x api.Rat) *big.Rat {
	den := whole(x.Den)
	if den.Sign() == 0 {
		return new(big.Rat)
	}
	return new(big.Rat).SetFrac(whole(x.Num), den)
}

func wholeOf(v *big.Int) api.Int {
	x := api.Int{Negative: v.Sign() < 0}
	for m := new(big.Int).Abs(v); m.Sign() > 0; m.Rsh(m, 32) {
		x.Words = append(x.Words, uint32(m.Uint64()))
	}
	return x
}

// canonical returns the canonical form of v.
func canonical(v *big.Rat) api.Rat {
	return api.Rat{Num: wholeOf(v.Num()), Den: wholeOf(v.Denom())}
}

func sameInt(x, y api.Int) bool {
	return x.Negative == y.Negative && slices.Equal(x.Words, y.Words)
}

func same(x, y api.Rat) bool {
	return sameInt(x.Num, y.Num) && sameInt(x.Den, y.Den)
}

// expect fails unless got is the canonical form of want.
func expect(t *testing.T, got api.Rat, want *big.Rat, what string, args ...api.Rat) {
	t.Helper()
	if !same(got, canonical(want)) {
		t.Fatalf("%s%v = %v, want %v", what, args, got, want)
	}
}

// fraction returns num / den with these very fields, in lowest terms or not.
func fraction(num, den int) api.Rat {
	return api.Rat{Num: integer.Of(num), Den: integer.Of(den)}
}

// power returns 2^k.
func power(k int) *big.Rat {
	if k < 0 {
		return new(big.Rat).Inv(power(-k))
	}
	return new(big.Rat).SetInt(new(big.Int).Lsh(big.NewInt(1), uint(k)))
}

// samples returns small and large fractions of both signs, many of them not canonical, some with the denominator 0.
func samples() []api.Rat {
	list := []api.Rat{
		{},
		{Num: api.Int{Negative: true}, Den: api.Int{Words: []uint32{1}}},
		{Num: integer.Of(5), Den: api.Int{Negative: true, Words: []uint32{0, 0}}},
		{Num: api.Int{Negative: true, Words: []uint32{6, 0}}, Den: api.Int{Negative: true, Words: []uint32{4}}},
		{Num: api.Int{Words: []uint32{3, 0}}, Den: integer.Of(2)},
		{Num: integer.Of(3), Den: api.Int{Words: []uint32{2, 0}}},
	}
	for num := -7; num <= 7; num++ {
		for den := -4; den <= 5; den++ {
			list = append(list, fraction(num, den))
		}
	}
	for _, n := range []int{math.MinInt, math.MinInt + 1, math.MaxInt, 1 << 32, -1 << 32, 1<<32 - 1} {
		list = append(list, fraction(n, math.MaxInt), fraction(1, n), fraction(n, n), fraction(n, 1<<33), fraction(3, n))
	}
	source := rand.New(rand.NewSource(1))
	for range 60 {
		list = append(list, api.Rat{Num: randomInt(source), Den: randomInt(source)})
	}
	return list
}

func randomInt(source *rand.Rand) api.Int {
	x := api.Int{Negative: source.Intn(2) == 0, Words: make([]uint32, source.Intn(7))}
	for i := range x.Words {
		x.Words[i] = []uint32{0, 1, 0x80000000, 0xffffffff, source.Uint32()}[source.Intn(5)]
	}
	return x
}

func TestP2_1Clean(t *testing.T) {
	for _, x := range samples() {
		clean := rational.Clean(x)
		expect(t, clean, value(x), "Clean", x)
		if !rational.Valid(clean) {
			t.Fatalf("Valid(%v) is false", clean)
		}
		if got := rational.Valid(x); got != same(x, clean) {
			t.Fatalf("Valid(%v) = %t", x, got)
		}
	}
	if got := rational.Clean(fraction(6, -4)); !same(got, fraction(-3, 2)) {
		t.Errorf("Clean(6/-4) = %v", got)
	}
}

func TestP2_1Valid(t *testing.T) {
	for _, c := range []struct {
		x     api.Rat
		valid bool
	}{
		{api.Rat{}, false}, {fraction(0, 1), true}, {fraction(0, 2), false}, {fraction(0, -1), false}, {fraction(3, 2), true},
		{fraction(-3, 2), true}, {fraction(3, -2), false}, {fraction(6, 4), false}, {fraction(1, 0), false}, {fraction(2, 2), false},
		{api.Rat{Num: api.Int{Words: []uint32{}}, Den: integer.Of(1)}, true},
		{api.Rat{Num: api.Int{Negative: true}, Den: integer.Of(1)}, false},
		{api.Rat{Num: api.Int{Words: []uint32{3, 0}}, Den: integer.Of(2)}, false},
		{api.Rat{Num: integer.Of(3), Den: api.Int{Words: []uint32{2, 0}}}, false},
	} {
		if got := rational.Valid(c.x); got != c.valid {
			t.Errorf("Valid(%v) = %t", c.x, got)
		}
	}
}

// TestP2_2Canonical builds the same values in many ways and expects the same fields.
func TestP2_2Canonical(t *testing.T) {
	list := samples()
	for i, x := range list {
		y := list[(i+31)%len(list)]
		sum := rational.Add(x, y)
		quotient, code := rational.Divide(rational.Mul(x, y), y)
		forms := []api.Rat{rational.Clean(x), rational.Sub(sum, y), rational.Neg(rational.Neg(x)), rational.Sum([]api.Rat{x})}
		if code == api.OK {
			forms = append(forms, quotient)
		}
		for k, form := range forms {
			if !rational.Valid(form) || !same(form, forms[0]) {
				t.Fatalf("form %d of %v is %v, want %v", k, x, form, forms[0])
			}
		}
	}
}

func TestP2_2New(t *testing.T) {
	for _, x := range samples() {
		got, code := rational.New(x.Num, x.Den)
		if whole(x.Den).Sign() == 0 {
			if code != api.ErrRange || !same(got, api.Rat{}) {
				t.Fatalf("New of %v = %v, %d", x, got, code)
			}
			continue
		}
		expect(t, got, value(x), "New", x)
		if code != api.OK {
			t.Fatalf("New of %v: %d", x, code)
		}
	}
}

func TestP2_2Of(t *testing.T) {
	for _, c := range []struct {
		num, den int
		text     string
	}{
		{6, -4, "-3/2"}, {0, -5, "0"}, {math.MinInt, math.MinInt, "1"}, {1, math.MinInt, "-1/9223372036854775808"},
		{math.MinInt, 1, "-9223372036854775808"}, {math.MinInt, -1, "9223372036854775808"}, {math.MinInt, 6, "-4611686018427387904/3"},
	} {
		x, code := rational.Of(c.num, c.den)
		if code != api.OK || !rational.Valid(x) || rational.Text(x) != c.text {
			t.Errorf("Of(%d, %d) = %s, %d", c.num, c.den, rational.Text(x), code)
		}
	}
	for _, num := range []int{0, 1, math.MinInt} {
		if x, code := rational.Of(num, 0); code != api.ErrRange || !same(x, api.Rat{}) {
			t.Errorf("Of(%d, 0) = %v, %d", num, x, code)
		}
	}
}

func TestP2_3Arithmetic(t *testing.T) {
	list := samples()
	for _, x := range list {
		expect(t, rational.Neg(x), new(big.Rat).Neg(value(x)), "Neg", x)
		for _, y := range list {
			expect(t, rational.Add(x, y), new(big.Rat).Add(value(x), value(y)), "Add", x, y)
			expect(t, rational.Sub(x, y), new(big.Rat).Sub(value(x), value(y)), "Sub", x, y)
			expect(t, rational.Mul(x, y), new(big.Rat).Mul(value(x), value(y)), "Mul", x, y)
			got, code := rational.Divide(x, y)
			if value(y).Sign() == 0 {
				if code != api.ErrRange || !same(got, api.Rat{}) {
					t.Fatalf("Divide(%v, %v) = %v, %d", x, y, got, code)
				}
				continue
			}
			expect(t, got, new(big.Rat).Quo(value(x), value(y)), "Divide", x, y)
			if code != api.OK {
				t.Fatalf("Divide(%v, %v): %d", x, y, code)
			}
		}
	}
}

func TestP2_3Sum(t *testing.T) {
	list := samples()
	for from := range list {
		for _, count := range []int{0, 1, 2, 7, 40} {
			part := list[from:min(from+count, len(list))]
			want := new(big.Rat)
			for _, x := range part {
				want.Add(want, value(x))
			}
			expect(t, rational.Sum(part), want, "Sum", part...)
		}
	}
	if got := rational.Sum(nil); !same(got, fraction(0, 1)) {
		t.Errorf("Sum(nil) = %v", got)
	}
	var harmonic []api.Rat
	want := new(big.Rat)
	for n := 1; n <= 300; n++ {
		harmonic = append(harmonic, fraction(1, n))
		want.Add(want, big.NewRat(1, int64(n)))
	}
	expect(t, rational.Sum(harmonic), want, "Sum")
}

func TestP2_4Order(t *testing.T) {
	list := samples()
	for _, x := range list {
		if got := rational.Sign(x); got != value(x).Sign() {
			t.Fatalf("Sign(%v) = %d", x, got)
		}
		for _, y := range list {
			got := rational.Compare(x, y)
			if got != value(x).Cmp(value(y)) || got != rational.Sign(rational.Sub(x, y)) || got != -rational.Compare(y, x) {
				t.Fatalf("Compare(%v, %v) = %d", x, y, got)
			}
		}
	}
}

func TestP2_5TextAndParse(t *testing.T) {
	for _, x := range samples() {
		text := rational.Text(x)
		want := value(x).RatString()
		if text != want {
			t.Fatalf("Text(%v) = %s, want %s", x, text, want)
		}
		got, code := rational.Parse(text)
		if code != api.OK || !same(got, rational.Clean(x)) {
			t.Fatalf("Parse(%s) = %v, %d", text, got, code)
		}
	}
	if rational.Text(api.Rat{}) != "0" {
		t.Errorf("Text of the zero struct is %q", rational.Text(api.Rat{}))
	}
}

func TestP2_5ParseValues(t *testing.T) {
	for _, c := range []struct{ in, out string }{
		{"0", "0"}, {"7", "7"}, {"-7", "-7"}, {"2/4", "1/2"}, {"-10/4", "-5/2"}, {"0/7", "0"}, {"9/1", "9"}, {"12/3", "4"},
		{"1000000000000000000/1000000000000000001", "1000000000000000000/1000000000000000001"},
		{"36893488147419103232/18446744073709551616", "2"},
	} {
		x, code := rational.Parse(c.in)
		if code != api.OK || rational.Text(x) != c.out || !rational.Valid(x) {
			t.Errorf("Parse(%s) = %s, %d", c.in, rational.Text(x), code)
		}
	}
}

// TestP2_5Long parses numbers of all lengths around those at which their conversion changes, up to the longest text.
func TestP2_5Long(t *testing.T) {
	for _, digits := range []int{17, 18, 19, 35, 36, 37, 599, 600, 601, 602, 4095, 8191, 8192} {
		for _, text := range []string{strings.Repeat("9", digits), "1" + strings.Repeat("0", digits-1), "-" + strings.Repeat("3", digits-1)} {
			want, _ := new(big.Int).SetString(text, 10)
			x, code := rational.Parse(text)
			if code != api.OK || !sameInt(x.Num, wholeOf(want)) || rational.Text(x) != text {
				t.Errorf("Parse of %d digits: %d", digits, code)
			}
		}
	}
	half := strings.Repeat("7", 4095)
	if x, code := rational.Parse("-" + half + "/" + half); code != api.OK || !same(x, fraction(-1, 1)) {
		t.Errorf("Parse of a text with %d bytes: %d", api.MaxText-1, code)
	}
}

func TestP2_5ParseErrors(t *testing.T) {
	ones := strings.Repeat("1", api.MaxText)
	for _, c := range []struct {
		text string
		code api.Code
	}{
		{"", api.ErrSyntax}, {"-", api.ErrSyntax}, {"/", api.ErrSyntax}, {"1/", api.ErrSyntax}, {"/1", api.ErrSyntax}, {"-/1", api.ErrSyntax},
		{"-0", api.ErrSyntax}, {"-0/1", api.ErrSyntax}, {"00", api.ErrSyntax}, {"01", api.ErrSyntax}, {"-01", api.ErrSyntax}, {"1/02", api.ErrSyntax},
		{"1/00", api.ErrSyntax}, {"+1", api.ErrSyntax}, {"--1", api.ErrSyntax}, {"10/-4", api.ErrSyntax}, {"1/+2", api.ErrSyntax}, {"1/2/3", api.ErrSyntax},
		{"1//2", api.ErrSyntax}, {" 1", api.ErrSyntax}, {"1 /2", api.ErrSyntax}, {"1/ 2", api.ErrSyntax}, {"1.5", api.ErrSyntax}, {"1a", api.ErrSyntax},
		{"1_0", api.ErrSyntax}, {"٣", api.ErrSyntax}, {"1\n", api.ErrSyntax}, {"-0/0", api.ErrSyntax}, {"a/0", api.ErrSyntax},
		{"1/0", api.ErrRange}, {"0/0", api.ErrRange}, {"-5/0", api.ErrRange},
		{ones, api.OK}, {ones + "1", api.ErrLong}, {ones + "a", api.ErrLong}, {ones[2:] + "/0", api.ErrRange}, {ones[1:] + "/0", api.ErrLong},
		{ones[1:] + "a", api.ErrSyntax},
	} {
		x, code := rational.Parse(c.text)
		if code != c.code || code != api.OK && !same(x, api.Rat{}) {
			t.Errorf("Parse(%.20q..) = %d, want %d", c.text, code, c.code)
		}
	}
}

func TestP2_6Floor(t *testing.T) {
	for _, x := range samples() {
		floor := rational.Floor(x)
		low := new(big.Rat).SetInt(whole(floor))
		high := new(big.Rat).Add(low, big.NewRat(1, 1))
		if !integer.Valid(floor) || low.Cmp(value(x)) > 0 || high.Cmp(value(x)) <= 0 {
			t.Fatalf("Floor(%v) = %v", x, floor)
		}
	}
	for _, c := range []struct{ num, den, floor int }{{-1, 2, -1}, {1, 2, 0}, {-4, 2, -2}, {7, -2, -4}, {5, 0, 0}, {math.MinInt, -1, 0}} {
		want := integer.Of(c.floor)
		if c.num == math.MinInt {
			want = api.Int{Words: []uint32{0, 0x80000000}}
		}
		if got := rational.Floor(fraction(c.num, c.den)); !sameInt(got, want) {
			t.Errorf("Floor(%d/%d) = %v", c.num, c.den, got)
		}
	}
}

func checkLogarithms(t *testing.T, x api.Rat) {
	t.Helper()
	low, lowCode := rational.Log2Floor(x)
	high, highCode := rational.Log2Ceil(x)
	v := value(x)
	if v.Sign() <= 0 {
		if low != 0 || high != 0 || lowCode != api.ErrRange || highCode != api.ErrRange {
			t.Fatalf("logarithms of %v: %d, %d, %d, %d", v, low, lowCode, high, highCode)
		}
		return
	}
	if lowCode != api.OK || power(low).Cmp(v) > 0 || power(low+1).Cmp(v) <= 0 {
		t.Fatalf("Log2Floor(%v) = %d, %d", v, low, lowCode)
	}
	if highCode != api.OK || power(high-1).Cmp(v) >= 0 || power(high).Cmp(v) < 0 {
		t.Fatalf("Log2Ceil(%v) = %d, %d", v, high, highCode)
	}
}

func TestP2_7Logarithms(t *testing.T) {
	for _, x := range samples() {
		checkLogarithms(t, x)
	}
	tiny := new(big.Rat).SetFrac(big.NewInt(1), new(big.Int).Lsh(big.NewInt(1), 300))
	for k := -140; k <= 140; k++ {
		for _, v := range []*big.Rat{power(k), new(big.Rat).Add(power(k), tiny), new(big.Rat).Sub(power(k), tiny)} {
			checkLogarithms(t, canonical(v))
		}
	}
}

func TestP2_7Examples(t *testing.T) {
	for _, c := range []struct{ num, den, low, high int }{{3, 8, -2, -1}, {1, 1, 0, 0}, {5, 4, 0, 1}, {-6, -16, -2, -1}, {1, 4, -2, -2}, {12, 3, 2, 2}} {
		low, _ := rational.Log2Floor(fraction(c.num, c.den))
		high, _ := rational.Log2Ceil(fraction(c.num, c.den))
		if low != c.low || high != c.high {
			t.Errorf("logarithms of %d/%d: %d, %d", c.num, c.den, low, high)
		}
	}
}

func TestP2_8Reduce(t *testing.T) {
	numbers := []int{math.MinInt, -2, -1, 0, 1, 2, 3, 4, 6, 12, 35, 1 << 32, math.MaxInt - 1, math.MaxInt}
	for _, num := range numbers {
		for _, den := range numbers {
			f, code := rational.Reduce(num, den)
			if num < 0 || den < 1 {
				if code != api.ErrRange || f != (api.Frac{}) {
					t.Errorf("Reduce(%d, %d) = %v, %d", num, den, f, code)
				}
				continue
			}
			want := big.NewRat(int64(num), int64(den))
			if code != api.OK || int64(f.Num) != want.Num().Int64() || int64(f.Den) != want.Denom().Int64() {
				t.Errorf("Reduce(%d, %d) = %v, %d", num, den, f, code)
			}
		}
	}
}

func TestP2_8LessAndFromFrac(t *testing.T) {
	var list []api.Frac
	numbers := []int{math.MinInt, -1, 0, 1, 2, 3, 6, 1<<32 + 1, math.MaxInt - 1, math.MaxInt}
	for _, num := range numbers {
		for _, den := range numbers {
			list = append(list, api.Frac{Num: num, Den: den})
		}
	}
	valid := func(f api.Frac) bool { return f.Num >= 0 && f.Den >= 1 }
	for _, a := range list {
		x, code := rational.FromFrac(a)
		if !valid(a) && (code != api.ErrRange || !same(x, api.Rat{})) || valid(a) && (code != api.OK || !same(x, rational.Clean(fraction(a.Num, a.Den)))) {
			t.Errorf("FromFrac(%v) = %v, %d", a, x, code)
		}
		for _, b := range list {
			y, _ := rational.FromFrac(b)
			want := valid(a) && valid(b) && rational.Compare(x, y) < 0
			if got := rational.Less(a, b); got != want {
				t.Errorf("Less(%v, %v) = %t", a, b, got)
			}
		}
	}
}

// TestMemory changes all results in place and expects that neither the arguments nor the other results change.
func TestMemory(t *testing.T) {
	list := samples()
	for i, x := range list {
		y := list[(i+17)%len(list)]
		xValue, yValue := value(x), value(y)
		quotient, _ := rational.Divide(x, y)
		made, _ := rational.New(x.Num, x.Den)
		results := []api.Int{rational.Floor(x)}
		for _, r := range []api.Rat{
			rational.Clean(x), made, rational.Neg(x), rational.Add(x, y), rational.Sub(x, y), rational.Mul(x, y), quotient,
			rational.Sum([]api.Rat{x}), rational.Sum([]api.Rat{x, y}),
		} {
			results = append(results, r.Num, r.Den)
		}
		for k, r := range results {
			next := results[(k+1)%len(results)]
			before := integer.Text(next)
			for j := range r.Words[:cap(r.Words)] {
				r.Words[:cap(r.Words)][j] ^= 0x5a5a5a5a
			}
			if integer.Text(next) != before {
				t.Fatalf("the results %d and %d for %v, %v share memory", k, k+1, x, y)
			}
		}
		if value(x).Cmp(xValue) != 0 || value(y).Cmp(yValue) != 0 {
			t.Fatalf("arguments are shared or changed: %v, %v", xValue, yValue)
		}
	}
}
