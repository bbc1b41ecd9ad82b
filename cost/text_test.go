package cost_test

import (
	"strconv"
	"strings"
	"testing"

	"keyhole/api"
	"keyhole/cost"
)

func TestP15_1Check(t *testing.T) {
	for _, name := range entryNames {
		for value, want := range map[int]api.Code{0: api.OK, 1: api.OK, 99: api.OK, 100: api.OK, 101: api.ErrRange, -1: api.ErrRange, 1<<63 - 1: api.ErrRange, -1 << 63: api.ErrRange} {
			c := cost.Default()
			setEntry(&c, name, value)
			if got := cost.Check(c); got != want {
				t.Errorf("Check with %s %d = %d, want %d", name, value, got, want)
			}
			if _, got := cost.Print(c); got != want {
				t.Errorf("Print with %s %d = %d, want %d", name, value, got, want)
			}
		}
	}
	if code := cost.Check(api.Costs{}); code != api.OK {
		t.Errorf("Check of zeros = %d", code)
	}
}

func TestP15_1Default(t *testing.T) {
	want := api.Costs{Assign: 1, Branch: 1, Loop: 1, Call: 2, Output: 1, Release: 1, Index: 1, Arith: 1, Multiply: 3, Divide: 8, Compare: 1, Logic: 1}
	if got := cost.Default(); got != want {
		t.Errorf("Default = %v", got)
	}
}

func TestP15_1List(t *testing.T) {
	g := newGenerator(151, 1)
	for range 1000 {
		c := g.costsOrWrong()
		list := cost.List(c)
		if len(list) != 13 {
			t.Fatalf("List(%v) = %v", c, list)
		}
		for i, name := range entryNames {
			if list[i] != entry(c, name) {
				t.Fatalf("List(%v)[%d] = %d, want %s", c, i, list[i], name)
			}
		}
		clear(list)
		if again := cost.List(c); again[0] != c.Assign {
			t.Fatalf("the list is kept: %v", again)
		}
	}
}

func TestP15_2Print(t *testing.T) {
	const want = "assign 1, branch 1, loop 1, call 2, output 1, release 1, load 0, index 1, arith 1, multiply 3, divide 8, compare 1, logic 1"
	if got, code := cost.Print(cost.Default()); got != want || code != api.OK {
		t.Errorf("Print = %q, %d", got, code)
	}
	g := newGenerator(152, 1)
	for range 1000 {
		c := g.costsOrWrong()
		var parts []string
		for _, name := range entryNames {
			parts = append(parts, name+" "+strconv.Itoa(entry(c, name)))
		}
		want := strings.Join(parts, ", ")
		code := cost.Check(c)
		if code != api.OK {
			want = ""
		}
		if got, gotCode := cost.Print(c); got != want || gotCode != code {
			t.Fatalf("Print(%v) = %q, %d, want %q, %d", c, got, gotCode, want, code)
		}
		if code != api.OK {
			continue
		}
		if back, code := cost.Parse(want); back != c || code != api.OK {
			t.Fatalf("Parse(%q) = %v, %d", want, back, code)
		}
	}
}

func TestP15_2Parse(t *testing.T) {
	for _, c := range []struct {
		text string
		want api.Costs
		code api.Code
	}{
		{"", api.Costs{}, api.OK}, {" ", api.Costs{}, api.OK}, {strings.Repeat(" ", 8192), api.Costs{}, api.OK}, {strings.Repeat(" ", 8193), api.Costs{}, api.ErrLong},
		{"load 2,  divide 10", api.Costs{Load: 2, Divide: 10}, api.OK}, {"load 2,", api.Costs{}, api.ErrSyntax}, {"loads 1", api.Costs{}, api.ErrName},
		{"load 1, load 1", api.Costs{}, api.ErrDuplicate}, {"load 101", api.Costs{}, api.ErrRange}, {"load 01", api.Costs{}, api.ErrSyntax},
		{"  logic   100  ,assign 0", api.Costs{Logic: 100}, api.OK}, {"load 0, load 0", api.Costs{}, api.ErrDuplicate}, {"load 00", api.Costs{}, api.ErrSyntax},
		{",", api.Costs{}, api.ErrSyntax}, {" , ", api.Costs{}, api.ErrSyntax}, {",load 1", api.Costs{}, api.ErrSyntax}, {"load 1,,call 1", api.Costs{}, api.ErrSyntax},
		{"load", api.Costs{}, api.ErrSyntax}, {"5", api.Costs{}, api.ErrSyntax}, {"5 load", api.Costs{}, api.ErrSyntax}, {"load1", api.Costs{}, api.ErrSyntax}, {"load -1", api.Costs{}, api.ErrSyntax},
		{"load +1", api.Costs{}, api.ErrSyntax}, {"load 1 2", api.Costs{}, api.ErrSyntax}, {"load call 1", api.Costs{}, api.ErrSyntax}, {"Load 1", api.Costs{}, api.ErrSyntax}, {"load\t1", api.Costs{}, api.ErrSyntax},
		{"load 1\n", api.Costs{}, api.ErrSyntax}, {"\tload 1", api.Costs{}, api.ErrSyntax}, {"load\u00a01", api.Costs{}, api.ErrSyntax}, {"load \u0661", api.Costs{}, api.ErrSyntax}, {"l\u00e4d 1", api.Costs{}, api.ErrSyntax}, {"load 1\x00", api.Costs{}, api.ErrSyntax},
		{"load 1;", api.Costs{}, api.ErrSyntax}, {"load: 1", api.Costs{}, api.ErrSyntax}, {"load 1_0", api.Costs{}, api.ErrSyntax}, {"load 0x1", api.Costs{}, api.ErrSyntax},
		{"load 18446744073709551617", api.Costs{}, api.ErrRange}, {"load " + strings.Repeat("9", 8187), api.Costs{}, api.ErrRange}, {"load " + strings.Repeat("9", 8188), api.Costs{}, api.ErrLong},
		{"load 1" + strings.Repeat(" ", 8186), api.Costs{Load: 1}, api.OK}, {"load 1" + strings.Repeat(" ", 8187), api.Costs{}, api.ErrLong},
		// The parts come before each other as they stand, the errors of a part in their order.
		{"load 101, x", api.Costs{}, api.ErrRange}, {"x 1, load", api.Costs{}, api.ErrName}, {"load 1, load 101", api.Costs{}, api.ErrDuplicate}, {"loads 101", api.Costs{}, api.ErrName}, {"loads 01", api.Costs{}, api.ErrSyntax},
		{"load 1, load 01", api.Costs{}, api.ErrSyntax}, {"load 1, load 1,", api.Costs{}, api.ErrDuplicate}, {"x 1, x 1", api.Costs{}, api.ErrName},
	} {
		if got, code := cost.Parse(c.text); got != c.want || code != c.code {
			t.Errorf("Parse(%.40q) = %v, %d, want %v, %d", c.text, got, code, c.want, c.code)
		}
		if got, code := parseModel(c.text); got != c.want || code != c.code {
			t.Errorf("the model of %.40q is %v, %d, want %v, %d", c.text, got, code, c.want, c.code)
		}
	}
}

func TestP15_2Texts(t *testing.T) {
	g := newGenerator(1522, 0)
	codes := map[api.Code]int{}
	for range 40000 {
		var parts []string
		for range g.Intn(5) {
			part := pick(g, entryNames...) + strings.Repeat(" ", 1+g.Intn(2)) + pick(g, "0", "1", "17", "99", "100")
			switch g.Intn(20) {
			case 0:
				part = pick(g, "a 1", "loads 2", "x 101", "as 1", "sign 1", "logi 1")
			case 1:
				part = pick(g, "load 101", "call 999", "loop 1000", "index 99999999999999999999")
			case 2:
				part = pick(g, "", "load", "7", "call 01", "call -1", "Call 1", "call 1 1", "call\t1")
			}
			parts = append(parts, strings.Repeat(" ", g.Intn(2))+part+strings.Repeat(" ", g.Intn(2)))
		}
		text := []byte(strings.Join(parts, ","))
		if len(text) > 0 && g.Intn(4) == 0 {
			text[g.Intn(len(text))] = pick[byte](g, ' ', ',', '0', '1', 'a', 'z', '{', '`', '/', ':', 'l', 0, 255)
		}
		want, code := parseModel(string(text))
		if got, gotCode := cost.Parse(string(text)); got != want || gotCode != code {
			t.Fatalf("Parse(%q) = %v, %d, want %v, %d", text, got, gotCode, want, code)
		}
		codes[code]++
	}
	for _, code := range []api.Code{api.OK, api.ErrSyntax, api.ErrName, api.ErrDuplicate, api.ErrRange} {
		if codes[code] < 500 {
			t.Errorf("only %d texts with the code %d", codes[code], code)
		}
	}
}
