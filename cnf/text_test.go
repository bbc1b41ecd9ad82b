package cnf_test

import (
	"math/rand"
	"strings"
	"testing"

	"keyhole/api"
	"keyhole/cnf"
	"keyhole/sample"
)

func TestP30_7Examples(t *testing.T) {
	for _, c := range []struct {
		c    api.Cnf
		text string
	}{
		{api.Cnf{}, "p cnf 0 0\nc keep 0\n"}, {api.Cnf{Vars: 20000, Keep: 10}, "p cnf 20000 0\nc keep 10\n"}, {api.Cnf{Clauses: [][]int{{}}}, "p cnf 0 1\nc keep 0\n0\n"},
		{api.Cnf{Vars: 12, Keep: 1, Clauses: [][]int{{}, {-1}, {1, -2, 12}}}, "p cnf 12 3\nc keep 1\n0\n-1 0\n1 -2 12 0\n"},
		{api.Cnf{Vars: 20000, Keep: 20000, Clauses: [][]int{{-19999, -20000}, {19999, 20000}}}, "p cnf 20000 2\nc keep 20000\n-19999 -20000 0\n19999 20000 0\n"},
	} {
		if text, code := cnf.Print(c.c); text != c.text || code != api.OK {
			t.Errorf("Print(%v) = %q, %d, want %q", c.c, text, code, c.text)
		}
		if got, code := cnf.Parse(c.text); !isCnf(got, c.c) || code != api.OK {
			t.Errorf("Parse(%q) = %v, %d, want %v", c.text, got, code, c.c)
		}
	}
}

func TestP30_7PrintErrors(t *testing.T) {
	for i, c := range []struct {
		c    api.Cnf
		code api.Code
	}{
		{api.Cnf{Vars: 1, Keep: 2}, api.ErrArgument}, {api.Cnf{Vars: 20001}, api.ErrLimit}, {api.Cnf{Vars: 1, Clauses: [][]int{{0}}}, api.ErrRange}, {api.Cnf{Vars: 1, Clauses: [][]int{{1}, {-1}}}, api.ErrOrder},
	} {
		if text, code := cnf.Print(c.c); text != "" || code != c.code {
			t.Errorf("%d: Print = %q, %d", i, text, code)
		}
	}
}

// Bad texts, each of which looks nearly like one of a formula.
func TestP30_7Syntax(t *testing.T) {
	for _, s := range []string{
		"", "p", "p cnf", "p cnf 0 0", "p cnf 0 0\n", "p cnf 0 0\nc keep 0", "p cnf 0 0\nc keep 0\n\n", "p cnf 0 0\nc keep 0\n ", " p cnf 0 0\nc keep 0\n", "p cnf 0 0 \nc keep 0\n", "p cnf 0  0\nc keep 0\n", "p cnf 0 0\r\nc keep 0\r\n", "P cnf 0 0\nc keep 0\n",
		"p cnf 00 0\nc keep 0\n", "p cnf 0 00\nc keep 0\n", "p cnf 0 0\nc keep 00\n", "p cnf -0 0\nc keep 0\n", "p cnf 0 -0\nc keep 0\n", "p cnf 0 0\nc keep -0\n", "p cnf +1 0\nc keep 0\n", "p cnf 1 0\nc keep +1\n", "p cnf -1 0\nc keep 0\n", "p cnf 1 0\nc keep -1\n", "p cnf 1 -1\nc keep 0\n", "p cnf 1 0\nc keep 2\n", "p cnf 20001 0\nc keep 0\n", "p cnf 99999999999999999999 0\nc keep 0\n", "p cnf 1 99999999999999999999\nc keep 0\n", "p cnf 0x1 0\nc keep 0\n", "p cnf 1_0 0\nc keep 0\n",
		"p cnf 0 1\nc keep 0\n", "p cnf 0 0\nc keep 0\n0\n", "p cnf 0 1\nc keep 0\n0\n0\n", "p cnf 0 2\nc keep 0\n0\n0\n", "p cnf 0 1\nc keep 0\n0", "p cnf 0 1\nc keep 0\n 0\n", "p cnf 0 1\nc keep 0\n00\n", "p cnf 0 1\nc keep 0\n-0\n", "p cnf 0 1\nc keep 0\n\n",
		"p cnf 3 1\nc keep 0\n1 2\n", "p cnf 3 1\nc keep 0\n1 2 0 0\n", "p cnf 3 1\nc keep 0\n1  2 0\n", "p cnf 3 1\nc keep 0\n1 2 0 \n", "p cnf 3 1\nc keep 0\n1 2\n0\n", "p cnf 3 1\nc keep 0\n2 1 0\n", "p cnf 3 1\nc keep 0\n1 1 0\n", "p cnf 3 1\nc keep 0\n-1 1 0\n", "p cnf 3 1\nc keep 0\n1 4 0\n", "p cnf 3 1\nc keep 0\n1 02 0\n", "p cnf 3 1\nc keep 0\n1 +2 0\n", "p cnf 3 1\nc keep 0\n1 --2 0\n", "p cnf 3 1\nc keep 0\n1 2- 0\n", "p cnf 3 1\nc keep 0\n- 0\n", "p cnf 3 1\nc keep 0\n1\t2 0\n",
		"p cnf 3 2\nc keep 0\n1 0\n-1 0\n", "p cnf 3 2\nc keep 0\n1 2 0\n1 0\n", "p cnf 3 2\nc keep 0\n1 0\n1 0\n", "c keep 0\np cnf 0 0\n", "p cnf 0 0\nc keep 0\np cnf 0 0\nc keep 0\n", "p cnf 1 1\nc keep 0\n99999999999999999999 0\n", "p cnf 1 1\nc keep 0\n0000000001 0\n",
	} {
		if got, code := cnf.Parse(s); !isCnf(got, api.Cnf{}) || code != api.ErrSyntax {
			t.Errorf("Parse(%q) = %v, %d", s, got, code)
		}
	}
}

func TestP30_7Parse(t *testing.T) {
	r := rand.New(rand.NewSource(311))
	signs := "0123456789- \npcnfke"
	accepted := 0
	for range 40000 {
		c := formula(r)
		text, code := cnf.Print(c)
		if text != printModel(c) || code != api.OK {
			t.Fatalf("Print(%v) = %q, %d", c, text, code)
		}
		if got, code := cnf.Parse(text); !isCnf(got, c) || code != api.OK {
			t.Fatalf("Parse(%q) = %v, %d", text, got, code)
		}
		bytes := []byte(text)
		for range 1 + r.Intn(2) {
			at, sign := r.Intn(len(bytes)), signs[r.Intn(len(signs))]
			switch r.Intn(3) {
			case 0:
				bytes[at] = sign
			case 1:
				bytes = append(bytes[:at], bytes[at+1:]...)
			default:
				bytes = append(bytes[:at], append([]byte{sign}, bytes[at:]...)...)
			}
		}
		other := string(bytes)
		want, code := parseModel(other)
		got, gotCode := cnf.Parse(other)
		if !isCnf(got, want) || gotCode != code {
			t.Fatalf("Parse(%q) = %v, %d, want %v, %d", other, got, gotCode, want, code)
		}
		if code == api.OK {
			accepted++
			if again, code := cnf.Print(got); again != other || code != api.OK {
				t.Fatalf("Print(%v) = %q, %d, want %q", got, again, code, other)
			}
		}
	}
	if accepted < 1000 {
		t.Errorf("%d other texts are accepted", accepted)
	}
}

// long returns a formula whose text has exactly so many bytes, about 4 million. All but a few literals take 6 bytes.
func long(bytes int) api.Cnf {
	c := api.Cnf{Vars: 19999}
	all := sample.Range(10000, 20000, 1)
	for len(c.Clauses) < (bytes-100)/54010 {
		c.Clauses = append(c.Clauses, append([]int{len(c.Clauses) + 1}, all[:9000]...))
	}
	left := bytes - len(printModel(api.Cnf{Vars: 19999, Clauses: append(c.Clauses, nil)}))
	short := [6][]int{{100, 200, 300}, {100, 200, 1000}, {100, 200}, {100, 1000}, {100}, {1000}}[left%6]
	taken := len(printModel(api.Cnf{Clauses: [][]int{short}})) - len(printModel(api.Cnf{Clauses: [][]int{nil}}))
	c.Clauses = append(c.Clauses, append(short, all[:(left-taken)/6]...))
	return c
}

func TestP30_7Long(t *testing.T) {
	const most = 4194304
	for _, bytes := range []int{most - 1, most, most + 1, most + 6} {
		c := long(bytes)
		want := printModel(c)
		if len(want) != bytes || cnf.Check(c) != api.OK {
			t.Fatalf("%d bytes, want %d; %d", len(want), bytes, cnf.Check(c))
		}
		text, code := cnf.Print(c)
		got, parseCode := cnf.Parse(want)
		if bytes > most {
			if text != "" || code != api.ErrLong || !isCnf(got, api.Cnf{}) || parseCode != api.ErrLong {
				t.Errorf("%d bytes: Print = %d bytes, %d; Parse = %d", bytes, len(text), code, parseCode)
			}
			continue
		}
		if text != want || code != api.OK || !isCnf(got, c) || parseCode != api.OK {
			t.Errorf("%d bytes: Print = %d bytes, %d; Parse = %d", bytes, len(text), code, parseCode)
		}
	}
	if _, code := cnf.Parse(strings.Repeat("x", most)); code != api.ErrSyntax {
		t.Errorf("Parse = %d", code)
	}
	if _, code := cnf.Parse(strings.Repeat("x", most+1)); code != api.ErrLong {
		t.Errorf("Parse = %d", code)
	}
}
