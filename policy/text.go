package policy

import (
	"strings"

	"keyhole/api"
)

// Print returns the text of p.
func Print(p api.Policy) (string, api.Code) {
	if Check(p) != api.OK {
		return "", api.ErrArgument
	}
	var b strings.Builder
	line := func(parts ...string) {
		for _, part := range parts {
			b.WriteString(part)
		}
		b.WriteByte('\n')
	}
	line("levels ", strings.Join(p.Levels, ", "))
	if len(p.Order) > 0 {
		var pairs []string
		for _, pair := range p.Order {
			pairs = append(pairs, p.Levels[pair[0]]+" < "+p.Levels[pair[1]])
		}
		line("order ", strings.Join(pairs, ", "))
	}
	for _, label := range p.Inputs {
		line("input ", label.Name, " ", p.Levels[label.Level])
	}
	for _, label := range p.Hatches {
		line("hatch ", label.Name, " ", p.Levels[label.Level])
	}
	if p.Timed {
		line("observe ", p.Levels[p.Observer], " timed")
	} else {
		line("observe ", p.Levels[p.Observer])
	}
	if b.Len() > api.MaxText {
		return "", api.ErrLong
	}
	return b.String(), api.OK
}

// Parse returns the policy with a text, or the number of the line of an error (from 1 on; 0 if it is not an error of a line).
func Parse(text string) (api.Policy, int, api.Code) {
	if len(text) > api.MaxText {
		return api.Policy{}, 0, api.ErrLong
	}
	var r reader
	for i, line := range strings.Split(text, "\n") {
		if code := r.read(line); code != api.OK {
			return api.Policy{}, i + 1, code
		}
	}
	if r.levels == nil || !r.isObserved {
		return api.Policy{}, 0, api.ErrMissing
	}
	if code := Check(r.policy); code != api.OK {
		return api.Policy{}, 0, code
	}
	return r.policy, 0, api.OK
}

// reader has what the lines that are read so far say.
type reader struct {
	policy     api.Policy
	levels     map[string]int // nil before the line of the levels
	isObserved bool
}

// read reads a line.
func (r *reader) read(line string) api.Code {
	line = strings.TrimLeft(line, " ")
	if line == "" || line[0] == '#' {
		return api.OK
	}
	tokens, ok := tokensOf(line)
	if !ok {
		return api.ErrSyntax
	}
	methods := map[string]func(rest []string) api.Code{
		"levels":  r.readLevels,
		"order":   r.readOrder,
		"input":   r.readInput,
		"hatch":   r.readHatch,
		"observe": r.readObserver,
	}
	method := methods[tokens[0]]
	if method == nil {
		return api.ErrSyntax
	}
	return method(tokens[1:])
}

func (r *reader) readLevels(rest []string) api.Code {
	names, ok := wordsOf(rest, "", ",")
	switch {
	case !ok:
		return api.ErrSyntax
	case r.levels != nil:
		return api.ErrDuplicate
	}
	r.policy.Levels, r.levels = names, map[string]int{}
	for i, name := range names {
		if _, isTwin := r.levels[name]; !isTwin {
			r.levels[name] = i
		}
	}
	return api.OK
}

func (r *reader) readOrder(rest []string) api.Code {
	names, ok := wordsOf(rest, "", "<", "", ",")
	if !ok {
		return api.ErrSyntax
	}
	for ; len(names) > 0; names = names[2:] {
		low, isLow := r.levels[names[0]]
		high, isHigh := r.levels[names[1]]
		if !isLow || !isHigh {
			return api.ErrName
		}
		r.policy.Order = append(r.policy.Order, [2]int{low, high})
	}
	return api.OK
}

func (r *reader) readInput(rest []string) api.Code {
	return r.readLabel(&r.policy.Inputs, rest)
}

func (r *reader) readHatch(rest []string) api.Code {
	return r.readLabel(&r.policy.Hatches, rest)
}

func (r *reader) readLabel(labels *[]api.Label, rest []string) api.Code {
	if len(rest) != 2 || !isWord(rest[0]) || !isWord(rest[1]) {
		return api.ErrSyntax
	}
	level, ok := r.levels[rest[1]]
	if !ok {
		return api.ErrName
	}
	*labels = append(*labels, api.Label{Name: rest[0], Level: level})
	return api.OK
}

func (r *reader) readObserver(rest []string) api.Code {
	timed := len(rest) == 2 && rest[1] == "timed"
	if len(rest) != 1 && !timed || !isWord(rest[0]) {
		return api.ErrSyntax
	}
	if r.isObserved {
		return api.ErrDuplicate
	}
	level, ok := r.levels[rest[0]]
	if !ok {
		return api.ErrName
	}
	r.policy.Observer, r.policy.Timed, r.isObserved = level, timed, true
	return api.OK
}

// tokensOf divides a line into words and signs, if it consists of these and of spaces.
func tokensOf(line string) ([]string, bool) {
	var tokens []string
	var word []byte
	endWord := func() {
		if len(word) > 0 {
			tokens = append(tokens, string(word))
			word = nil
		}
	}
	for i := range len(line) {
		if isWordByte(line[i]) {
			word = append(word, line[i])
			continue
		}
		endWord()
		switch line[i] {
		case ',', '<':
			tokens = append(tokens, line[i:i+1])
		case ' ':
		default:
			return nil, false
		}
	}
	endWord()
	return tokens, true
}

// wordsOf returns the words of tokens that follow a pattern again and again, where "" stands for a word, up to the sign that
// would begin another group.
func wordsOf(tokens []string, pattern ...string) ([]string, bool) {
	if (len(tokens)+1)%len(pattern) != 0 {
		return nil, false
	}
	var words []string
	for i, token := range tokens {
		sign := pattern[i%len(pattern)]
		switch {
		case sign == "" && isWord(token):
			words = append(words, token)
		case sign != token:
			return nil, false
		}
	}
	return words, true
}

// isWord reports whether a token is a word.
func isWord(token string) bool {
	return isWordByte(token[0])
}
