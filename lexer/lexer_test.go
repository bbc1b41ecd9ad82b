package lexer_test

import (
	"math/big"
	"math/rand"
	"regexp"
	"slices"
	"strconv"
	"strings"
	"testing"

	"keyhole/api"
	"keyhole/lexer"
)

// The words of the chapter, in its order.
const reserved = "type secret public random var hatch func return begin end bool int array of record true false call release output wait if else while limit for to settle min max"

// The parts of a text.
var (
	space   = regexp.MustCompile(`^([ \t\n]|#[^\n]*)+`)
	word    = regexp.MustCompile(`^[a-z][a-z0-9]*`)
	integer = regexp.MustCompile(`^[0-9][a-z0-9]*`)
	sign    = regexp.MustCompile(`^(\.\.|==|!=|<=|>=|&&|\|\||[;:,.=+*/%<>!?()\[\]{}-])`)
)

// model returns what Lex must return, with the parts of the definition as patterns.
func model(s string) ([]api.Token, int, api.Code) {
	if len(s) > 8192 {
		return nil, 0, api.ErrLong
	}
	var tokens []api.Token
	for at := 0; ; {
		at += len(space.FindString(s[at:]))
		rest := s[at:]
		if rest == "" {
			return tokens, 0, api.OK
		}
		token := api.Token{At: at}
		if text := word.FindString(rest); text != "" {
			token.Text = text
			if slices.Contains(strings.Fields(reserved), text) {
				token.Kind = api.TokenWord
			} else if len(text) > 12 {
				return nil, at, api.ErrName
			}
		} else if text := integer.FindString(rest); text != "" {
			token.Kind, token.Text = api.TokenInt, text
			value, ok := new(big.Int).SetString(text, 10)
			if !ok || value.String() != text {
				return nil, at, api.ErrSyntax
			}
			if value.Cmp(big.NewInt(1048576)) > 0 {
				return nil, at, api.ErrRange
			}
		} else if text := sign.FindString(rest); text != "" {
			token.Kind, token.Text = api.TokenSign, text
		} else {
			return nil, at, api.ErrSyntax
		}
		tokens = append(tokens, token)
		at += len(token.Text)
	}
}

// expect fails unless Lex returns what the model returns.
func expect(t *testing.T, s string) []api.Token {
	t.Helper()
	tokens, at, code := lexer.Lex(s)
	wantTokens, wantAt, wantCode := model(s)
	if !slices.Equal(tokens, wantTokens) || at != wantAt || code != wantCode {
		t.Fatalf("Lex(%q) = %v, %d, %d, want %v, %d, %d", s, tokens, at, code, wantTokens, wantAt, wantCode)
	}
	return tokens
}

// fragments are the pieces of which texts are made.
func fragments() []string {
	list := []string{
		" ", "\t", "\n", "#", "# a 1 ==\n", "#\n", "##", "a", "z", "x1", "abcdefghijkl", "abcdefghijklm", "output1", "settle", "0", "1", "9", "00", "01",
		"12ab", "1048576", "1048577", "99999999999999999999", "0x", "A", "_", "é", "\x00", "\r", "\x80", "\"", "'", "&", "|", "&&", "||", "..", "...",
		"==", "===", "!=", "<=", ">=", "=<", "@", "~", "^", "\\", "$", "`",
	}
	for _, b := range ";:,.=+-*/%<>!?()[]{}" {
		list = append(list, string(b))
	}
	return append(list, strings.Fields(reserved)...)
}

// texts calls check for texts of few bytes, for all sequences of two fragments, and for random sequences.
func texts(check func(s string)) {
	check("")
	for a := range 256 {
		check(string([]byte{byte(a)}))
		for b := range 256 {
			check(string([]byte{byte(a), byte(b)}))
		}
	}
	list := fragments()
	for _, a := range list {
		for _, b := range list {
			check(a + b)
			check(a + " " + b)
		}
	}
	source := rand.New(rand.NewSource(9))
	for range 20000 {
		text := ""
		// The first fragments are more often those that lead to errors; so texts without an error are made of the others too.
		good := source.Intn(2) == 0
		for range source.Intn(12) {
			fragment := list[source.Intn(len(list))]
			if _, _, code := model(fragment); !good || code == api.OK {
				text += fragment
				if good && source.Intn(2) == 0 {
					text += " "
				}
			}
		}
		check(text)
	}
}

func TestP9_1Lex(t *testing.T) {
	codes := map[api.Code]int{}
	texts(func(s string) {
		expect(t, s)
		_, _, code := model(s)
		codes[code]++
	})
	for _, code := range []api.Code{api.OK, api.ErrName, api.ErrSyntax, api.ErrRange} {
		if codes[code] < 500 {
			t.Errorf("only %d texts with the code %d", codes[code], code)
		}
	}
}

func TestP9_1Triples(t *testing.T) {
	alphabet := "a9 0.=!<&|#\n-A"
	for _, a := range alphabet {
		for _, b := range alphabet {
			for _, c := range alphabet {
				for _, d := range alphabet {
					expect(t, string([]rune{a, b, c, d}))
				}
			}
		}
	}
}

func TestP9_1Integers(t *testing.T) {
	for n := range 1200 {
		expect(t, strconv.Itoa(n))
		expect(t, "0"+strconv.Itoa(n))
		expect(t, strconv.Itoa(1<<20-600+n))
	}
	for _, s := range []string{"1048576", "1048577", "0", "00", "000", "9223372036854775807", "9223372036854775808", "18446744073709551617",
		"18446744073709551616a", "1048577a", "01048577", "1a", "1 a", "a1", "-1", "- 1", "1.5", "1..5", "1e5", "0b", "0 b", strings.Repeat("9", 8192), strings.Repeat("0", 8192)} {
		expect(t, s)
	}
}

func TestP9_1Long(t *testing.T) {
	for _, s := range []string{" ", "a ", "&", "1 ", "\n", "#", "abcdefghijklmn", "(", "01 "} {
		for _, length := range []int{8190, 8191, 8192, 8193, 8194, 20000} {
			text := strings.Repeat(s, length/len(s)+1)[:length]
			tokens, at, code := lexer.Lex(text)
			if length > 8192 && (len(tokens) != 0 || at != 0 || code != api.ErrLong) {
				t.Errorf("%d bytes %q...: %d tokens, %d, %d", length, s, len(tokens), at, code)
			}
			expect(t, text)
		}
	}
	if tokens := expect(t, strings.Repeat("+", 8192)); len(tokens) != 8192 {
		t.Errorf("%d tokens", len(tokens))
	}
}

func TestP9_2Whole(t *testing.T) {
	texts(func(s string) {
		tokens, _, code := lexer.Lex(s)
		if code != api.OK {
			return
		}
		end := 0
		for _, token := range append(slices.Clone(tokens), api.Token{At: len(s)}) {
			between := s[end:token.At]
			for line := range strings.Lines(between) {
				blank, _, _ := strings.Cut(line, "#")
				if strings.Trim(blank, " \t\n") != "" {
					t.Fatalf("%q: %q is left out", s, between)
				}
			}
			if s[token.At:token.At+len(token.Text)] != token.Text {
				t.Fatalf("%q: the token %v is not there", s, token)
			}
			end = token.At + len(token.Text)
		}
		if end != len(s) {
			t.Fatalf("%q: tokens up to %d", s, end)
		}
	})
}

// sameTokens reports whether a and b are the same tokens, at whatever offsets.
func sameTokens(a, b []api.Token) bool {
	return slices.EqualFunc(a, b, func(x, y api.Token) bool { return x.Kind == y.Kind && x.Text == y.Text })
}

func TestP9_3Join(t *testing.T) {
	texts(func(s string) {
		tokens, _, code := lexer.Lex(s)
		joined := lexer.Join(tokens)
		if code != api.OK || len(joined) > 8192 {
			return
		}
		again, _, code := lexer.Lex(joined)
		if code != api.OK || !sameTokens(tokens, again) {
			t.Fatalf("%q is joined to %q", s, joined)
		}
	})
}

func TestP9_3JoinAnything(t *testing.T) {
	for _, texts := range [][]string{{}, {"a"}, {""}, {"", ""}, {"a b", "#", "\n", "é"}, {"x", "=", "1", ";"}, {"\x00", "", strings.Repeat("a", 9000)}} {
		var tokens []api.Token
		for i, text := range texts {
			tokens = append(tokens, api.Token{Kind: api.TokenKind(i * 7), Text: text, At: -i})
		}
		if got := lexer.Join(tokens); got != strings.Join(texts, " ") {
			t.Errorf("Join(%q) = %q", texts, got)
		}
	}
	if got := lexer.Join(nil); got != "" {
		t.Errorf("Join(nil) = %q", got)
	}
}

func TestP9_4WhiteSpace(t *testing.T) {
	source := rand.New(rand.NewSource(94))
	gaps := []string{" ", "\n", "\t", "  \n", "# x == 1\n", "#\n#\n", " \t# &\x00é\"\n "}
	texts(func(s string) {
		tokens, _, code := lexer.Lex(s)
		if code != api.OK {
			return
		}
		text := ""
		for _, token := range tokens {
			text += gaps[source.Intn(len(gaps))] + token.Text
		}
		text += gaps[source.Intn(len(gaps))] + "# the end"
		again, _, code := lexer.Lex(text)
		if len(text) <= 8192 && (code != api.OK || !sameTokens(tokens, again)) {
			t.Fatalf("%q and %q have other tokens", s, text)
		}
	})
}

func TestP9_5Words(t *testing.T) {
	list := strings.Fields(reserved)
	for _, word := range list {
		if !lexer.Reserved(word) || lexer.IsName(word) {
			t.Errorf("%q: reserved %t, name %t", word, lexer.Reserved(word), lexer.IsName(word))
		}
		for _, other := range []string{word[1:], word[:len(word)-1], word + "s", word + "0", " " + word, word + " ", strings.ToUpper(word), word + "\n"} {
			if lexer.Reserved(other) != slices.Contains(list, other) {
				t.Errorf("Reserved(%q) = %t", other, lexer.Reserved(other))
			}
		}
	}
	for _, s := range []string{"", " ", "type secret", reserved, "integer", "assert", "a"} {
		if lexer.Reserved(s) {
			t.Errorf("%q is reserved", s)
		}
	}
}

func TestP9_5Names(t *testing.T) {
	pattern := regexp.MustCompile(`\A[a-z][a-z0-9]*\z`)
	check := func(s string) {
		want := pattern.MatchString(s) && len(s) <= 12 && !slices.Contains(strings.Fields(reserved), s)
		if got := lexer.IsName(s); got != want {
			t.Fatalf("IsName(%q) = %t", s, got)
		}
		tokens, _, code := lexer.Lex(s)
		alone := code == api.OK && len(tokens) == 1 && tokens[0].Kind == api.TokenName && tokens[0].Text == s
		if alone != want {
			t.Fatalf("IsName(%q) = %t, tokens %v", s, want, tokens)
		}
	}
	texts(check)
	for _, s := range []string{"a23456789012", "a234567890123", "abcdefghijkl", "abcdefghijklm", strings.Repeat("z", 12), strings.Repeat("z", 13), "zZ", "z_", "aé", "a\n", "0a"} {
		check(s)
	}
}

func TestP9_6FirstError(t *testing.T) {
	texts(func(s string) {
		_, at, code := lexer.Lex(s)
		if code == api.OK || code == api.ErrLong {
			return
		}
		if tokens, _, before := lexer.Lex(s[:at]); before != api.OK {
			t.Fatalf("Lex(%q) = %v, code %d before the error at %d", s, tokens, before, at)
		}
		if _, first, same := lexer.Lex(s[at:]); first != 0 || same != code {
			t.Fatalf("Lex(%q): the error at %d is %d, alone it is %d at %d", s, at, code, same, first)
		}
	})
	for _, s := range []string{"a & 01", "01 & a", "1048577 abcdefghijklm", "abcdefghijklm 1048577", "x ? 1a : &", "\n\n# &\n\t12a"} {
		expect(t, s)
	}
}

func TestP9_7LineFeed(t *testing.T) {
	list := fragments()
	source := rand.New(rand.NewSource(97))
	some := func() string {
		text := ""
		for range source.Intn(6) {
			text += list[source.Intn(len(list))]
		}
		return text
	}
	for range 20000 {
		a, b := some(), some()
		both, at, code := lexer.Lex(a + "\n" + b)
		first, atFirst, codeFirst := lexer.Lex(a)
		second, atSecond, codeSecond := lexer.Lex(b)
		switch {
		case codeFirst != api.OK:
			if len(both) != 0 || at != atFirst || code != codeFirst {
				t.Fatalf("%q, %q: %v, %d, %d", a, b, both, at, code)
			}
		case codeSecond != api.OK:
			if len(both) != 0 || at != len(a)+1+atSecond || code != codeSecond {
				t.Fatalf("%q, %q: %v, %d, %d", a, b, both, at, code)
			}
		default:
			for i := range second {
				second[i].At += len(a) + 1
			}
			if code != api.OK || !slices.Equal(both, append(first, second...)) {
				t.Fatalf("%q, %q: %v, %d", a, b, both, code)
			}
		}
	}
	// The longest texts that a line feed may separate.
	a, b := strings.Repeat("a ", 2048), strings.Repeat("+", 4095)
	if tokens, _, code := lexer.Lex(a + "\n" + b); code != api.OK || len(tokens) != 2048+4095 {
		t.Errorf("%d tokens, code %d", len(tokens), code)
	}
}

func TestExamples(t *testing.T) {
	tokens, at, code := lexer.Lex("a1 = 20..x; # end")
	want := []api.Token{
		{Kind: api.TokenName, Text: "a1"}, {Kind: api.TokenSign, Text: "=", At: 3}, {Kind: api.TokenInt, Text: "20", At: 5},
		{Kind: api.TokenSign, Text: "..", At: 7}, {Kind: api.TokenName, Text: "x", At: 9}, {Kind: api.TokenSign, Text: ";", At: 10},
	}
	if !slices.Equal(tokens, want) || at != 0 || code != api.OK {
		t.Errorf("%v, %d, %d", tokens, at, code)
	}
	for _, c := range []struct {
		text string
		at   int
		code api.Code
	}{
		{"a & b", 2, api.ErrSyntax}, {"x = 01;", 4, api.ErrSyntax}, {"x = 12ab;", 4, api.ErrSyntax},
		{"1048577", 0, api.ErrRange}, {"abcdefghijklm", 0, api.ErrName},
	} {
		if tokens, at, code := lexer.Lex(c.text); len(tokens) != 0 || at != c.at || code != c.code {
			t.Errorf("Lex(%q) = %v, %d, %d", c.text, tokens, at, code)
		}
	}
	for text, joined := range map[string]string{"a.b": "a . b", "a<=b": "a <= b", "a<-b": "a < - b", "===": "== ="} {
		if tokens, _, _ := lexer.Lex(text); lexer.Join(tokens) != joined {
			t.Errorf("Lex(%q) = %v", text, tokens)
		}
	}
}

// TestMemory changes a result, which later results must not show.
func TestMemory(t *testing.T) {
	text := "a = 1; # x"
	first, _, _ := lexer.Lex(text)
	for i := range first {
		first[i] = api.Token{Text: "changed"}
	}
	expect(t, text)
}
