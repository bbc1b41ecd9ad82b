package integer_test

import (
	"math"
	"math/big"
	"math/rand"
	"slices"
	"strings"
	"testing"

	"keyhole/api"
	"keyhole/integer"
)

// value returns the value of x by its definition, whether x is canonical or not.
func value(x api.Int) *big.Int {
	v := new(big.Int)
	for _, w := range slices.Backward(x.Words) {
		v.Lsh(v, 32)
		v.Or(v, big.NewInt(int64(w)))
	}
	if x.Negative {
		v.Neg(v)
	}
	return v
}

// canonical returns the canonical form of v.
func canonical(v *big.Int) api.Int {
	x := api.Int{Negative: v.Sign() < 0}
	for m := new(big.Int).Abs(v); m.Sign() > 0; m.Rsh(m, 32) {
		x.Words = append(x.Words, uint32(m.Uint64()))
	}
	return x
}

func same(x, y api.Int) bool {
	return x.Negative == y.Negative && slices.Equal(x.Words, y.Words)
}

func number(t *testing.T, s string) api.Int {
	t.Helper()
	v, ok := new(big.Int).SetString(s, 10)
	if !ok {
		t.Fatalf("%q is no number", s)
	}
	return canonical(v)
}

// expect fails unless got is the canonical form of want.
func expect(t *testing.T, got api.Int, want *big.Int, what string, args ...api.Int) {
	t.Helper()
	if !same(got, canonical(want)) {
		t.Fatalf("%s%v = %v, want %v", what, args, got, canonical(want))
	}
}

// edges returns integers of up to four words at the borders of their sizes, with both signs and in forms that are not
// canonical.
func edges() []api.Int {
	words := []uint32{0, 1, 2, 0x7fffffff, 0x80000000, 0xffffffff}
	list := []api.Int{{}, {Negative: true}}
	row := [][]uint32{{}}
	for length := 1; length <= 3; length++ {
		var longer [][]uint32
		for _, head := range row {
			for _, w := range words {
				longer = append(longer, append(slices.Clone(head), w))
			}
		}
		row = longer
		for i, w := range row {
			list = append(list, api.Int{Negative: i%2 == 0, Words: w})
		}
	}
	return append(list,
		api.Int{Words: []uint32{7, 0, 0, 0}},
		api.Int{Negative: true, Words: []uint32{0, 0, 0, 0, 0}},
		api.Int{Words: []uint32{0, 0, 0, 1, 0}},
		api.Int{Negative: true, Words: []uint32{0xffffffff, 0xffffffff, 0xffffffff, 0xffffffff}},
		api.Int{Words: []uint32{0, 0x80000000, 0x7fffffff, 0x80000000}},
	)
}

// random returns integers of up to the given number of words, many of whose words are at the borders.
func random(seed int64, count, length int) []api.Int {
	source := rand.New(rand.NewSource(seed))
	border := []uint32{0, 1, 0x7fffffff, 0x80000000, 0x80000001, 0xfffffffe, 0xffffffff}
	list := make([]api.Int, count)
	for i := range list {
		list[i] = api.Int{Negative: source.Intn(2) == 0, Words: make([]uint32, source.Intn(length+1))}
		atBorder := source.Intn(3)
		for k := range list[i].Words {
			list[i].Words[k] = source.Uint32()
			if atBorder > 0 && source.Intn(3) < atBorder {
				list[i].Words[k] = border[source.Intn(len(border))]
			}
		}
	}
	return list
}

// pairs calls check for pairs of edges and for pairs of random integers of equal and of different lengths.
func pairs(check func(x, y api.Int)) {
	list := edges()
	for _, x := range list {
		for _, y := range list {
			check(x, y)
		}
	}
	short, middle, long := random(1, 60, 4), random(2, 60, 12), random(3, 60, 70)
	for i := range short {
		for k := range 20 {
			j := (i + k) % len(short)
			check(short[i], middle[j])
			check(middle[i], short[j])
			check(middle[i], middle[j])
			check(long[i], middle[j])
			check(long[i], long[j])
		}
	}
}

func singles() []api.Int {
	return slices.Concat(edges(), random(4, 200, 6), random(5, 20, 80))
}

func TestP1_1Forms(t *testing.T) {
	for _, x := range singles() {
		v := value(x)
		if got := integer.Valid(x); got != same(x, canonical(v)) {
			t.Fatalf("Valid(%v) = %t", x, got)
		}
		expect(t, integer.Clean(x), v, "Clean", x)
		expect(t, integer.Neg(x), new(big.Int).Neg(v), "Neg", x)
		expect(t, integer.Abs(x), new(big.Int).Abs(v), "Abs", x)
		if got := integer.Sign(x); got != v.Sign() {
			t.Fatalf("Sign(%v) = %d", x, got)
		}
		if got := integer.Bits(x); got != v.BitLen() {
			t.Fatalf("Bits(%v) = %d, want %d", x, got, v.BitLen())
		}
	}
}

func TestP1_1Zero(t *testing.T) {
	for _, x := range []api.Int{{}, {Negative: true}, {Words: []uint32{}}, {Words: []uint32{0}}, {Negative: true, Words: []uint32{0, 0}}} {
		valid := !x.Negative && len(x.Words) == 0
		if integer.Valid(x) != valid || integer.Sign(x) != 0 || integer.Bits(x) != 0 {
			t.Errorf("zero %v", x)
		}
		for _, y := range []api.Int{integer.Clean(x), integer.Neg(x), integer.Abs(x)} {
			if y.Negative || len(y.Words) != 0 {
				t.Errorf("%v becomes %v", x, y)
			}
		}
	}
}

func TestP1_2OfAndSmall(t *testing.T) {
	for _, n := range []int{0, 1, -1, 9, 1<<31 - 1, 1 << 31, 1<<32 - 1, 1 << 32, -1 << 32, 1<<32 + 1, math.MaxInt, math.MinInt, math.MinInt + 1} {
		x := integer.Of(n)
		expect(t, x, big.NewInt(int64(n)), "Of")
		if m, ok := integer.Small(x); m != n || !ok {
			t.Errorf("Small(Of(%d)) = %d, %t", n, m, ok)
		}
	}
	for _, x := range singles() {
		n, ok := integer.Small(x)
		v := value(x)
		if ok != v.IsInt64() || ok && int64(n) != v.Int64() || !ok && n != 0 {
			t.Errorf("Small(%v) = %d, %t", x, n, ok)
		}
		if ok {
			expect(t, integer.Of(n), v, "Of(Small)", x)
		}
	}
}

func TestP1_2SmallBeyondInt(t *testing.T) {
	for _, s := range []string{"9223372036854775808", "-9223372036854775809", "18446744073709551615", "-18446744073709551616"} {
		if n, ok := integer.Small(number(t, s)); n != 0 || ok {
			t.Errorf("Small(%s) = %d, %t", s, n, ok)
		}
	}
	wide := api.Int{Negative: true, Words: []uint32{0, 0x80000000, 0, 0}}
	if n, ok := integer.Small(wide); n != math.MinInt || !ok {
		t.Errorf("Small(%v) = %d, %t", wide, n, ok)
	}
}

func TestP1_3AddAndSub(t *testing.T) {
	pairs(func(x, y api.Int) {
		expect(t, integer.Add(x, y), new(big.Int).Add(value(x), value(y)), "Add", x, y)
		expect(t, integer.Sub(x, y), new(big.Int).Sub(value(x), value(y)), "Sub", x, y)
	})
}

func TestP1_4Mul(t *testing.T) {
	pairs(func(x, y api.Int) {
		expect(t, integer.Mul(x, y), new(big.Int).Mul(value(x), value(y)), "Mul", x, y)
	})
}

// floorDivide returns the quotient rounded towards minus infinity, and the remainder.
func floorDivide(x, y *big.Int) (*big.Int, *big.Int) {
	q, r := new(big.Int).QuoRem(x, y, new(big.Int))
	if r.Sign() != 0 && r.Sign() != y.Sign() {
		q.Sub(q, big.NewInt(1))
		r.Add(r, y)
	}
	return q, r
}

func TestP1_5Divide(t *testing.T) {
	pairs(func(x, y api.Int) {
		q, r, code := integer.Divide(x, y)
		if value(y).Sign() == 0 {
			if code != api.ErrArgument || !same(q, api.Int{}) || !same(r, api.Int{}) {
				t.Fatalf("Divide(%v, %v) = %v, %v, %d", x, y, q, r, code)
			}
			return
		}
		quotient, rest := floorDivide(value(x), value(y))
		expect(t, q, quotient, "quotient", x, y)
		expect(t, r, rest, "remainder", x, y)
		if code != api.OK || value(r).Sign() != 0 && (value(r).Sign() != value(y).Sign() || value(r).CmpAbs(value(y)) >= 0) {
			t.Fatalf("Divide(%v, %v): remainder %v, code %d", x, y, r, code)
		}
	})
}

// TestP1_5DivideMultiples divides numbers just below, at and above multiples of the divisor, where guesses of words of the
// quotient are most often too high.
func TestP1_5DivideMultiples(t *testing.T) {
	for _, y := range slices.Concat(edges(), random(6, 100, 9)) {
		if value(y).Sign() == 0 {
			continue
		}
		for _, factor := range random(7, 20, 5) {
			for _, offset := range []int64{-1, 0, 1} {
				v := new(big.Int).Mul(value(y), value(factor))
				v.Add(v, big.NewInt(offset))
				q, r, code := integer.Divide(canonical(v), y)
				quotient, rest := floorDivide(v, value(y))
				if code != api.OK || !same(q, canonical(quotient)) || !same(r, canonical(rest)) {
					t.Fatalf("Divide(%v, %v) = %v, %v, %d", v, value(y), value(q), value(r), code)
				}
			}
		}
	}
}

func gcd(x, y *big.Int) *big.Int {
	return new(big.Int).GCD(nil, nil, new(big.Int).Abs(x), new(big.Int).Abs(y))
}

func TestP1_6Gcd(t *testing.T) {
	pairs(func(x, y api.Int) {
		expect(t, integer.Gcd(x, y), gcd(value(x), value(y)), "Gcd", x, y)
	})
	common := random(8, 30, 6)
	for i, x := range random(9, 30, 30) {
		for _, y := range random(10, 30, 30) {
			a, b := new(big.Int).Mul(value(x), value(common[i])), new(big.Int).Mul(value(y), value(common[i]))
			expect(t, integer.Gcd(canonical(a), canonical(b)), gcd(a, b), "Gcd", canonical(a), canonical(b))
		}
	}
}

// TestP1_6GcdFibonacci takes the numbers for which Euclid's algorithm makes the most steps.
func TestP1_6GcdFibonacci(t *testing.T) {
	a, b := big.NewInt(0), big.NewInt(1)
	for range 2000 {
		a.Add(a, b)
		a, b = b, a
		triple := new(big.Int).Mul(a, big.NewInt(3))
		expect(t, integer.Gcd(canonical(triple), canonical(b)), gcd(triple, b), "Gcd", canonical(triple), canonical(b))
	}
}

func TestP1_6GcdOfZero(t *testing.T) {
	for _, x := range singles() {
		expect(t, integer.Gcd(x, api.Int{}), new(big.Int).Abs(value(x)), "Gcd", x)
		expect(t, integer.Gcd(api.Int{Negative: true, Words: []uint32{0}}, x), new(big.Int).Abs(value(x)), "Gcd", x)
	}
}

func TestP1_7Compare(t *testing.T) {
	pairs(func(x, y api.Int) {
		if got, want := integer.Compare(x, y), value(x).Cmp(value(y)); got != want {
			t.Fatalf("Compare(%v, %v) = %d, want %d", x, y, got, want)
		}
	})
}

func TestP1_8TextAndParse(t *testing.T) {
	for _, x := range singles() {
		text := integer.Text(x)
		if text != value(x).String() {
			t.Fatalf("Text(%v) = %s", x, text)
		}
		y, code := integer.Parse(text)
		if code != api.OK || !same(y, integer.Clean(x)) {
			if len(text) <= 600 {
				t.Fatalf("Parse(%s) = %v, %d", text, y, code)
			}
		}
	}
}

func TestP1_8PowersOfTen(t *testing.T) {
	for digits := 1; digits <= 600; digits++ {
		for _, text := range []string{"1" + strings.Repeat("0", digits-1), strings.Repeat("9", digits)} {
			for _, s := range []string{text, "-" + text} {
				x, code := integer.Parse(s)
				if code != api.OK || !same(x, number(t, s)) || integer.Text(x) != s {
					t.Fatalf("Parse(%s) = %v, %d", s, x, code)
				}
			}
		}
	}
}

func TestP1_8LongText(t *testing.T) {
	words := make([]uint32, 3000)
	words[2999] = 0x80000000
	x := api.Int{Negative: true, Words: words}
	if got := integer.Text(x); got != value(x).String() {
		t.Errorf("the text of a number with 3000 words: %d bytes", len(got))
	}
}

func TestP1_9ParseErrors(t *testing.T) {
	nines := strings.Repeat("9", 600)
	for _, c := range []struct {
		text string
		code api.Code
	}{
		{"", api.ErrSyntax}, {"-", api.ErrSyntax}, {"--1", api.ErrSyntax}, {"-0", api.ErrSyntax}, {"+1", api.ErrSyntax},
		{"00", api.ErrSyntax}, {"007", api.ErrSyntax}, {"-01", api.ErrSyntax}, {" 1", api.ErrSyntax}, {"1 ", api.ErrSyntax},
		{"1a", api.ErrSyntax}, {"1_0", api.ErrSyntax}, {"0x1", api.ErrSyntax}, {"1.0", api.ErrSyntax}, {"1e3", api.ErrSyntax},
		{"1/2", api.ErrSyntax}, {"1-", api.ErrSyntax}, {"\x00", api.ErrSyntax}, {"٣", api.ErrSyntax}, {":", api.ErrSyntax},
		{nines, api.OK}, {"-" + nines, api.OK},
		{nines + "9", api.ErrLong}, {"-" + nines + "9", api.ErrLong},
		{"0" + nines, api.ErrSyntax}, {"a" + nines, api.ErrSyntax}, {nines + "-", api.ErrSyntax},
		{"a" + nines + "9", api.ErrLong}, {strings.Repeat("x", 602), api.ErrLong}, {strings.Repeat("-", 601), api.ErrSyntax},
	} {
		x, code := integer.Parse(c.text)
		if code != c.code || code != api.OK && !same(x, api.Int{}) {
			t.Errorf("Parse(%q) = %v, %d, want %d", c.text, x, code, c.code)
		}
	}
}

func TestExamples(t *testing.T) {
	x, y := number(t, "-4294967296"), number(t, "4294967297")
	if got := integer.Text(integer.Mul(x, y)); got != "-18446744078004518912" {
		t.Errorf("Mul = %s", got)
	}
	for _, c := range []struct{ x, y, q, r int }{{-7, 2, -4, 1}, {7, -2, -4, -1}, {-7, -2, 3, -1}, {7, 2, 3, 1}, {-6, 2, -3, 0}} {
		q, r, code := integer.Divide(integer.Of(c.x), integer.Of(c.y))
		if code != api.OK || !same(q, integer.Of(c.q)) || !same(r, integer.Of(c.r)) {
			t.Errorf("Divide(%d, %d) = %v, %v, %d", c.x, c.y, q, r, code)
		}
	}
	if !same(integer.Gcd(integer.Of(-12), integer.Of(18)), integer.Of(6)) || !same(integer.Gcd(api.Int{}, api.Int{}), api.Int{}) {
		t.Error("Gcd")
	}
	if integer.Bits(integer.Of(255)) != 8 || integer.Bits(integer.Of(-256)) != 9 {
		t.Error("Bits")
	}
}

// results returns all integers that the functions return for x and y.
func results(x, y api.Int) []api.Int {
	q, r, _ := integer.Divide(x, y)
	return []api.Int{
		integer.Clean(x), integer.Neg(x), integer.Abs(x), integer.Add(x, y), integer.Sub(x, y), integer.Mul(x, y), q, r,
		integer.Gcd(x, y),
	}
}

// TestMemory changes all results in place, up to their capacity, and expects that neither the arguments nor the other
// results change.
func TestMemory(t *testing.T) {
	list := slices.Concat([]api.Int{{}, integer.Of(1), integer.Of(-5), {Words: []uint32{1, 2, 0}}}, random(11, 30, 7))
	for _, x := range list {
		for _, y := range list {
			a, b := integer.Clean(x), integer.Clean(y)
			all := results(x, y)
			for i := range all {
				before := integer.Text(all[(i+1)%len(all)])
				words := all[i].Words[:cap(all[i].Words)]
				for k := range words {
					words[k] ^= 0x5a5a5a5a
				}
				if integer.Text(all[(i+1)%len(all)]) != before {
					t.Fatalf("the results %d and %d for %v, %v share memory", i, i+1, x, y)
				}
			}
			if integer.Compare(a, x) != 0 || integer.Compare(b, y) != 0 {
				t.Fatalf("arguments are shared or changed: %v, %v", a, b)
			}
		}
	}
}
