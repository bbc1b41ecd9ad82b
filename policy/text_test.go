package policy_test

import (
	"regexp"
	"slices"
	"strings"
	"testing"

	"keyhole/api"
	"keyhole/policy"
)

// The forms of lines, without the spaces around them.
var (
	levelsForm  = regexp.MustCompile(`^levels +[a-z0-9._]+( *, *[a-z0-9._]+)*$`)
	orderForm   = regexp.MustCompile(`^order +[a-z0-9._]+ *< *[a-z0-9._]+( *, *[a-z0-9._]+ *< *[a-z0-9._]+)*$`)
	labelForm   = regexp.MustCompile(`^(input|hatch) +[a-z0-9._]+ +[a-z0-9._]+$`)
	observeForm = regexp.MustCompile(`^observe +[a-z0-9._]+( +timed)?$`)
	word        = regexp.MustCompile(`[a-z0-9._]+`)
)

// parse is what the chapter says of texts.
func parse(text string) (p api.Policy, line int, code api.Code) {
	if len(text) > 8192 {
		return api.Policy{}, 0, api.ErrLong
	}
	kinds := map[string]int{}
	for i, line := range strings.Split(text, "\n") {
		line = strings.Trim(line, " ")
		if line == "" || strings.HasPrefix(line, "#") {
			continue
		}
		if code := parseLine(&p, kinds, line); code != api.OK {
			return api.Policy{}, i + 1, code
		}
	}
	if kinds["levels"] == 0 || kinds["observe"] == 0 {
		return api.Policy{}, 0, api.ErrMissing
	}
	if code := check(p); code != api.OK {
		return api.Policy{}, 0, code
	}
	return p, 0, api.OK
}

func parseLine(p *api.Policy, kinds map[string]int, line string) api.Code {
	if !levelsForm.MatchString(line) && !orderForm.MatchString(line) && !labelForm.MatchString(line) && !observeForm.MatchString(line) {
		return api.ErrSyntax
	}
	words := word.FindAllString(line, -1)
	kind := words[0]
	kinds[kind]++
	if kinds[kind] > 1 && (kind == "levels" || kind == "observe") {
		return api.ErrDuplicate
	}
	// levels are the numbers of the words that stand for levels.
	var levels []int
	switch kind {
	case "order":
		levels = levelsOf(p, words[1:])
	case "input", "hatch":
		levels = levelsOf(p, words[2:])
	case "observe":
		levels = levelsOf(p, words[1:2])
	}
	if slices.Contains(levels, -1) {
		return api.ErrName
	}
	switch kind {
	case "levels":
		p.Levels = words[1:]
	case "order":
		for i := 0; i < len(levels); i += 2 {
			p.Order = append(p.Order, [2]int{levels[i], levels[i+1]})
		}
	case "input":
		p.Inputs = append(p.Inputs, api.Label{Name: words[1], Level: levels[0]})
	case "hatch":
		p.Hatches = append(p.Hatches, api.Label{Name: words[1], Level: levels[0]})
	case "observe":
		p.Observer, p.Timed = levels[0], len(words) == 3
	}
	return api.OK
}

func levelsOf(p *api.Policy, words []string) []int {
	var list []int
	for _, w := range words {
		list = append(list, slices.Index(p.Levels, w))
	}
	return list
}

// expectParse fails unless Parse returns what the model returns.
func expectParse(t *testing.T, text string) (api.Policy, int, api.Code) {
	t.Helper()
	got, line, code := policy.Parse(text)
	want, wantLine, wantCode := parse(text)
	if !equal(got, want) || line != wantLine || code != wantCode {
		t.Fatalf("Parse = %+v, %d, %d, want %+v, %d, %d: %q", got, line, code, want, wantLine, wantCode, text)
	}
	return got, line, code
}

func TestP19_2Examples(t *testing.T) {
	const text = "levels low, high\norder low < high\ninput pin high\nhatch last low\nobserve low timed\n"
	if got, code := policy.Print(example()); got != text || code != api.OK {
		t.Errorf("Print = %q, %d", got, code)
	}
	if got, line, code := expectParse(t, text); !equal(got, example()) || line != 0 || code != api.OK {
		t.Errorf("Parse = %+v, %d, %d", got, line, code)
	}
	if got, code := policy.Print(api.Policy{Levels: []string{"a"}}); got != "levels a\nobserve a\n" || code != api.OK {
		t.Errorf("Print = %q, %d", got, code)
	}
	p := lattices[3]
	p.Observer, p.Inputs = 2, []api.Label{{Name: "b", Level: 3}, {Name: "a.0", Level: 0}}
	if got, code := policy.Print(p); got != "levels b, observe, left, right\norder b < left, b < right, left < observe, right < observe, b < observe\ninput b right\ninput a.0 b\nobserve left\n" || code != api.OK {
		t.Errorf("Print = %q, %d", got, code)
	}
}

func TestP19_2Lines(t *testing.T) {
	for _, c := range []struct {
		text string
		line int
		code api.Code
	}{
		{"levels low\nobserve high", 2, api.ErrName}, {"levels a, b\nobserve a", 0, api.ErrMissing}, {"observe a\nlevels a", 1, api.ErrName},
		{"levels a\ninput pin\nobserve a", 2, api.ErrSyntax}, {"levels a", 0, api.ErrMissing},
		{"", 0, api.ErrMissing}, {"\n\n", 0, api.ErrMissing}, {"observe", 1, api.ErrSyntax}, {"# levels a", 0, api.ErrMissing}, {"levels a\nobserve a", 0, api.OK},
		// Spaces and comments; a comment is a line of its own.
		{"  \n   # ! ? \xff\t\nlevels   a  ,b ,  c\n#\n\n order a<b,b <c\n  observe  b   timed  ", 0, api.OK},
		{"levels a # low\nobserve a", 1, api.ErrSyntax}, {"levels a\nobserve a\n#\n ! ", 4, api.ErrSyntax}, {"levels\ta\nobserve a", 1, api.ErrSyntax}, {"levels a\r\nobserve a", 1, api.ErrSyntax},
		// The forms.
		{"levels\nobserve a", 1, api.ErrSyntax}, {"levels a,\nobserve a", 1, api.ErrSyntax}, {"levels ,a\nobserve a", 1, api.ErrSyntax}, {"levels a,,b\nobserve a", 1, api.ErrSyntax}, {"levels a b\nobserve a", 1, api.ErrSyntax},
		{"levels a < b\nobserve a", 1, api.ErrSyntax}, {"level a\nobserve a", 1, api.ErrSyntax}, {"levelsa\nobserve a", 1, api.ErrSyntax}, {"LEVELS a", 1, api.ErrSyntax}, {", levels a", 1, api.ErrSyntax}, {"< a", 1, api.ErrSyntax}, {"levels, a", 1, api.ErrSyntax},
		{"levels a\norder\nobserve a", 2, api.ErrSyntax}, {"levels a\norder a\nobserve a", 2, api.ErrSyntax}, {"levels a\norder a <\nobserve a", 2, api.ErrSyntax}, {"levels a\norder a < a < a\nobserve a", 2, api.ErrSyntax}, {"levels a\norder a, a\nobserve a", 2, api.ErrSyntax},
		{"levels a\norder a < a,\nobserve a", 2, api.ErrSyntax}, {"levels a\norder a < a a < a\nobserve a", 2, api.ErrSyntax}, {"levels a\norder a < a, a < a\nobserve a", 0, api.OK}, {"levels a\norder < a\nobserve a", 2, api.ErrSyntax}, {"levels a\norder a a a\nobserve a", 2, api.ErrSyntax}, {"levels a\norder a < <\nobserve a", 2, api.ErrSyntax},
		{"levels a\ninput p a a\nobserve a", 2, api.ErrSyntax}, {"levels a\ninput p, a\nobserve a", 2, api.ErrSyntax}, {"levels a\nhatch p <\nobserve a", 2, api.ErrSyntax}, {"levels a\nhatch , a\nobserve a", 2, api.ErrSyntax}, {"levels a\nhatch\nobserve a", 2, api.ErrSyntax},
		{"levels a\nobserve a time", 2, api.ErrSyntax}, {"levels a\nobserve a, timed", 2, api.ErrSyntax}, {"levels a\nobserve a timed timed", 2, api.ErrSyntax}, {"levels a\nobserve <", 2, api.ErrSyntax}, {"levels a\nobserve , timed", 2, api.ErrSyntax},
		// What stands twice, and names that are not known; a line that is read is not forgotten.
		{"levels a\nlevels a\nobserve a", 2, api.ErrDuplicate}, {"levels a\nobserve a\nobserve b", 3, api.ErrDuplicate}, {"levels a\nobserve a\nlevels a,", 3, api.ErrSyntax}, {"levels a\nobserve a\nobserve a\nlevels", 3, api.ErrDuplicate},
		{"order a < a\nlevels a\nobserve a", 1, api.ErrName}, {"levels a\norder a < b\nobserve a", 2, api.ErrName}, {"levels a\norder b < a\nobserve a", 2, api.ErrName}, {"levels a\norder a < a, a < b\nobserve a", 2, api.ErrName},
		{"levels a\ninput a b\nobserve a", 2, api.ErrName}, {"levels a\nhatch a b\nobserve a", 2, api.ErrName}, {"hatch a a\nlevels a\nobserve a", 1, api.ErrName}, {"levels a\norder a < a\norder a < a\nobserve a", 0, api.OK},
		// Words that mean something else in other places.
		{"levels levels, timed, order\norder levels < timed, timed<order\ninput observe timed\nhatch input order\nobserve timed timed", 0, api.OK}, {"levels timed\nobserve timed", 0, api.OK},
		// What is wrong with the policy as a whole.
		{"levels a.b\nobserve a.b", 0, api.ErrName}, {"levels 1\nobserve 1", 0, api.ErrName}, {"levels a, a\nobserve a", 0, api.ErrDuplicate}, {"levels a, b, a\norder a < b\nobserve a", 0, api.ErrDuplicate}, {"levels a\ninput 1 a\nobserve a", 0, api.ErrName},
		{"levels a\ninput p a\ninput p a\nobserve a", 0, api.ErrDuplicate}, {"levels a\ninput p a\nhatch p a\nobserve a", 0, api.OK}, {"levels a, b\norder a < b, b < a\nobserve a", 0, api.ErrOrder}, {"levels abcdefghijklm\nobserve abcdefghijklm", 0, api.ErrName},
		{"levels " + strings.Repeat("a, ", 12) + "a\nobserve a", 0, api.ErrLimit}, {"levels a\n" + strings.Repeat("input p a\n", 65) + "observe a", 0, api.ErrLimit}, {"levels a\n" + strings.Repeat("input p a\n", 65), 0, api.ErrMissing}, {"levels A\n", 1, api.ErrSyntax},
		{"levels a\ninput " + strings.Repeat("p", 40) + " a\nobserve a", 0, api.OK}, {"levels a\ninput " + strings.Repeat("p", 41) + " a\nobserve a", 0, api.ErrName},
		// The length of the text.
		{"levels a\nobserve a\n#" + strings.Repeat("x", 8192-20), 0, api.OK}, {"levels a\nobserve a\n#" + strings.Repeat("x", 8192-19), 0, api.ErrLong}, {"!" + strings.Repeat(" ", 8192), 0, api.ErrLong},
	} {
		p, line, code := expectParse(t, c.text)
		if line != c.line || code != c.code || (code != api.OK) != isZero(p) {
			t.Errorf("Parse = %+v, %d, %d, want %d, %d: %q", p, line, code, c.line, c.code, c.text)
		}
	}
}

// TestP19_2Short parses all texts of a few pieces behind a beginning.
func TestP19_2Short(t *testing.T) {
	pieces := []string{"a", "b", "timed", "levels", "order", "input", "observe", " ", ",", "<", "\n", "#", "!"}
	for _, beginning := range []string{"", "levels a,b\norder a<b\nobserve a\n", "levels a\nobserve "} {
		for i := range 13 * 13 * 13 * 13 {
			var b strings.Builder
			b.WriteString(beginning)
			for range 4 {
				b.WriteString(pieces[i%13])
				i /= 13
			}
			expectParse(t, b.String())
		}
	}
}

func TestP19_2Inverse(t *testing.T) {
	g := newGenerator(192)
	for range 10000 {
		p := g.policy()
		old := clone(p)
		text, code := policy.Print(p)
		if code != api.OK || !equal(p, old) {
			t.Fatalf("Print = %d: %+v", code, p)
		}
		if got, line, code := expectParse(t, text); !equal(got, p) || line != 0 || code != api.OK {
			t.Fatalf("Parse = %+v, %d, %d, want %+v", got, line, code, p)
		}
		if text != textOf(p) {
			t.Fatalf("Print = %q, want %q", text, textOf(p))
		}
	}
}

// textOf puts the text of a policy together from its lines.
func textOf(p api.Policy) string {
	lines := []string{"levels " + strings.Join(p.Levels, ", ")}
	var pairs []string
	for _, pair := range p.Order {
		pairs = append(pairs, p.Levels[pair[0]]+" < "+p.Levels[pair[1]])
	}
	if pairs != nil {
		lines = append(lines, "order "+strings.Join(pairs, ", "))
	}
	for _, label := range p.Inputs {
		lines = append(lines, "input "+label.Name+" "+p.Levels[label.Level])
	}
	for _, label := range p.Hatches {
		lines = append(lines, "hatch "+label.Name+" "+p.Levels[label.Level])
	}
	last := "observe " + p.Levels[p.Observer]
	if p.Timed {
		last += " timed"
	}
	return strings.Join(append(lines, last, ""), "\n")
}

// TestP19_2Long prints policies whose texts are as long as they may be, and longer.
func TestP19_2Long(t *testing.T) {
	p := api.Policy{Levels: []string{"a"}}
	for len(textOf(p)) < 8192-7 {
		p.Order = append(p.Order, [2]int{})
	}
	seen := map[int]bool{}
	for range 20 {
		p.Inputs = append(p.Inputs, api.Label{Name: "p" + strings.Repeat("q", len(p.Inputs)/2)})
		p.Inputs[len(p.Inputs)-1].Name += strings.Repeat("r", len(p.Inputs)%2)
		for len(textOf(p)) > 8200 {
			p.Order = p.Order[1:]
		}
		for cut := range 3 {
			q := clone(p)
			q.Order = q.Order[cut:]
			text, code := policy.Print(q)
			size := len(textOf(q))
			seen[size] = true
			if size <= 8192 && (text != textOf(q) || code != api.OK) || size > 8192 && (text != "" || code != api.ErrLong) {
				t.Errorf("Print of %d bytes = %d bytes, %d", size, len(text), code)
			}
		}
	}
	if !seen[8192] || !seen[8193] {
		t.Errorf("the lengths are %v", seen)
	}
}

// written returns a text of a policy with other spaces, and with empty lines and comments.
func (g generator) written(p api.Policy) string {
	var b strings.Builder
	space := func() string { return strings.Repeat(" ", g.Intn(3)) }
	for line := range strings.Lines(printed(p)) {
		if g.Intn(4) == 0 {
			b.WriteString(space() + pick(g, "", "#", "# levels x", "#\x00\xff") + "\n")
		}
		line = strings.TrimSuffix(line, "\n")
		line = strings.ReplaceAll(line, ", ", space()+","+space())
		line = strings.ReplaceAll(line, " < ", space()+"<"+space())
		line = strings.ReplaceAll(line, " ", " "+space())
		b.WriteString(space() + line + space() + "\n")
	}
	text := b.String()
	if g.Intn(2) == 0 {
		text = text[:len(text)-1]
	}
	return text
}

func TestP19_5Comments(t *testing.T) {
	g := newGenerator(1955)
	for range 10000 {
		p := g.policy()
		text := g.written(p)
		if got, line, code := policy.Parse(text); !equal(got, p) || line != 0 || code != api.OK {
			t.Fatalf("Parse = %+v, %d, %d, want %+v: %q", got, line, code, p, text)
		}
	}
}

func TestP19_2Disturbed(t *testing.T) {
	g := newGenerator(1922)
	codes := map[api.Code]int{}
	for range 40000 {
		text := g.written(g.policy())
		for range 1 + g.Intn(2) {
			lines := strings.Split(text, "\n")
			i, k := g.Intn(len(lines)), g.Intn(len(lines))
			at := g.Intn(len(text))
			switch g.Intn(5) {
			case 0:
				lines[i], lines[k] = lines[k], lines[i]
				text = strings.Join(lines, "\n")
			case 1:
				text = strings.Join(append(lines, lines[i]), "\n")
			case 2:
				text = text[:at] + text[at+1:] + " "
			case 3:
				text = text[:at] + pick(g, "a", "1", ",", "<", " ", "\n", "A", "\t", "#", ".", "timed", " low ", ", a", "< high") + text[at:]
			case 4:
				text = strings.Join(slices.Delete(lines, i, i+1), "\n") + " "
			}
		}
		_, _, code := expectParse(t, text)
		codes[code]++
	}
	for _, code := range []api.Code{api.OK, api.ErrSyntax, api.ErrName, api.ErrDuplicate, api.ErrMissing} {
		if codes[code] < 50 {
			t.Errorf("only %d texts with the code %d", codes[code], code)
		}
	}
}
