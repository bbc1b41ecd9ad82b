package parser_test

import (
	"math/rand"
	"regexp"
	"slices"
	"strings"

	"keyhole/api"
	"keyhole/lexer"
)

// The grammar of the chapter, as it stands there.
const grammarText = `
    program     = { declaration } "begin" { statement } "end" .
    declaration = "type" name "=" type ";"
                | ( "secret" | "public" | "random" ) name ":" type ";"
                | variable
                | "hatch" name ":" type "=" expression ";"
                | "func" name "(" [ param { "," param } ] ")" ":" type
                  "{" { variable } { statement } "return" expression ";" "}" .
    variable    = "var" name ":" type [ "=" value ] ";" .
    param       = name ":" type .
    value       = integer | "true" | "false" .
    integer     = [ "-" ] digits .
    type        = "bool" | "int" "[" integer ".." integer "]" | "array" integer "of" type
                | "record" "{" name ":" type { "," name ":" type } "}" | name .
    statement   = place "=" expression ";"
                | place "=" "call" name "(" [ expression { "," expression } ] ")" ";"
                | place "=" "release" name ";"
                | "output" expression ";"
                | "wait" integer ";"
                | "if" expression "{" { statement } "}" [ "else" "{" { statement } "}" ]
                | "while" expression "limit" integer "{" { statement } "}"
                | "for" name "=" integer "to" integer "{" { statement } "}"
                | "settle" integer { "," integer } ";" .
    place       = name { "." name | "[" expression "]" } .
    expression  = or [ "?" expression ":" expression ] .
    or          = and { "||" and } .
    and         = comparison { "&&" comparison } .
    comparison  = sum [ ( "==" | "!=" | "<" | "<=" | ">" | ">=" ) sum ] .
    sum         = product { ( "+" | "-" ) product } .
    product     = unary { ( "*" | "/" | "%" ) unary } .
    unary       = ( "-" | "!" ) unary | primary .
    primary     = digits | "true" | "false" | place | ( "min" | "max" ) "(" expression "," expression ")"
                | "(" expression ")" .
`

// part is a part of the grammar: a terminal or a rule (Text; quoted texts have their quotes), or what is made of Kids.
type part struct {
	Kind string // "terminal", "rule", "sequence", "choice", "repeat" or "option"
	Text string
	Kids []*part
	ID   int
	Cost int // the least number of tokens
}

// grammar has the rules by their names.
type grammar struct {
	rules map[string]*part
	parts []*part
}

var (
	grammarWord = regexp.MustCompile(`"[^"]*"|[a-z]+|[={}()\[\]|.]`)
	language    = newGrammar()
)

func newGrammar() *grammar {
	g := &grammar{rules: map[string]*part{}}
	words := grammarWord.FindAllString(grammarText, -1)
	for len(words) > 0 {
		name := words[0]
		words = words[2:]
		g.rules[name] = g.choice(&words)
		words = words[1:]
	}
	g.findCosts()
	return g
}

func (g *grammar) add(kind, text string, kids ...*part) *part {
	p := &part{Kind: kind, Text: text, Kids: kids, ID: len(g.parts), Cost: 1 << 20}
	g.parts = append(g.parts, p)
	return p
}

// choice reads alternatives up to a closing bracket or the end of the rule.
func (g *grammar) choice(words *[]string) *part {
	alternatives := []*part{g.sequence(words)}
	for (*words)[0] == "|" {
		*words = (*words)[1:]
		alternatives = append(alternatives, g.sequence(words))
	}
	return g.add("choice", "", alternatives...)
}

func (g *grammar) sequence(words *[]string) *part {
	var items []*part
	for {
		word := (*words)[0]
		if strings.ContainsAny(word, "|.)]}") && word[0] != '"' {
			return g.add("sequence", "", items...)
		}
		*words = (*words)[1:]
		kind := map[string]string{"(": "choice", "[": "option", "{": "repeat"}[word]
		switch {
		case kind != "":
			items = append(items, g.add(kind, "", g.choice(words)))
			*words = (*words)[1:]
		case word[0] == '"' || word == "name" || word == "digits":
			items = append(items, g.add("terminal", word))
		default:
			items = append(items, g.add("rule", word))
		}
	}
}

// findCosts computes the costs from one another until nothing changes.
func (g *grammar) findCosts() {
	for changed := true; changed; {
		changed = false
		for _, p := range g.parts {
			cost := 0
			switch p.Kind {
			case "terminal":
				cost = 1
			case "rule":
				cost = g.rules[p.Text].Cost
			case "sequence":
				for _, kid := range p.Kids {
					cost += kid.Cost
				}
			case "choice":
				cost = cheapest(p.Kids).Cost
			}
			if cost < p.Cost {
				p.Cost, changed = cost, true
			}
		}
	}
}

func cheapest(parts []*part) *part {
	return slices.MinFunc(parts, func(a, b *part) int { return a.Cost - b.Cost })
}

// terminals returns all terminals of the grammar, each once.
func (g *grammar) terminals() []string {
	var list []string
	for _, p := range g.parts {
		if p.Kind == "terminal" && !slices.Contains(list, p.Text) {
			list = append(list, p.Text)
		}
	}
	return list
}

// derive returns terminals that the part allows, chosen at random; without a budget the cheapest ones.
func (g *grammar) derive(r *rand.Rand, p *part, budget int) []string {
	var list []string
	switch p.Kind {
	case "terminal":
		return []string{p.Text}
	case "rule":
		return g.derive(r, g.rules[p.Text], budget-1)
	case "sequence":
		for _, kid := range p.Kids {
			list = append(list, g.derive(r, kid, budget)...)
		}
	case "choice":
		kid := cheapest(p.Kids)
		if budget > 0 {
			kid = p.Kids[r.Intn(len(p.Kids))]
		}
		return g.derive(r, kid, budget)
	case "option":
		if budget > 0 && r.Intn(4) == 0 {
			return g.derive(r, p.Kids[0], budget)
		}
	case "repeat":
		for budget > 0 && r.Intn(4) == 0 {
			list = append(list, g.derive(r, p.Kids[0], budget)...)
		}
	}
	return list
}

// recognizer finds which tokens a part of the grammar may take, in all ways.
type recognizer struct {
	*grammar
	tokens  []string
	known   [][][]int // by part and first token: the ends, after which the part may be done
	reached int       // the number of tokens with which some text of the grammar begins
}

func (m *recognizer) ends(p *part, from int) []int {
	if m.known[p.ID] == nil {
		m.known[p.ID] = make([][]int, len(m.tokens)+1)
	}
	if list := m.known[p.ID][from]; list != nil {
		return list
	}
	list := m.find(p, from)
	slices.Sort(list)
	list = slices.Compact(list)
	m.known[p.ID][from] = list
	return list
}

func (m *recognizer) find(p *part, from int) []int {
	list := []int{}
	switch p.Kind {
	case "terminal":
		if from < len(m.tokens) && m.tokens[from] == p.Text {
			m.reached = max(m.reached, from+1)
			return []int{from + 1}
		}
	case "rule":
		return slices.Clone(m.ends(m.rules[p.Text], from))
	case "sequence":
		list = append(list, from)
		for _, kid := range p.Kids {
			list = m.behind(list, kid)
		}
	case "choice":
		for _, kid := range p.Kids {
			list = append(list, m.ends(kid, from)...)
		}
	case "option":
		list = append(list, from)
		list = append(list, m.ends(p.Kids[0], from)...)
	case "repeat":
		list = append(list, from)
		for i := 0; i < len(list); i++ {
			for _, end := range m.ends(p.Kids[0], list[i]) {
				if !slices.Contains(list, end) {
					list = append(list, end)
				}
			}
		}
	}
	return list
}

// behind returns the ends of the part behind each of the given ends.
func (m *recognizer) behind(ends []int, p *part) []int {
	list := []int{}
	for _, from := range ends {
		for _, end := range m.ends(p, from) {
			if !slices.Contains(list, end) {
				list = append(list, end)
			}
		}
	}
	return list
}

// judge returns what the first two errors of the chapter say of a text that shall follow the rule.
func (g *grammar) judge(rule, text string) (tokens []api.Token, at int, code api.Code) {
	tokens, at, code = lexer.Lex(text)
	if code != api.OK {
		return nil, at, code
	}
	m := &recognizer{grammar: g, known: make([][][]int, len(g.parts))}
	for _, token := range tokens {
		switch token.Kind {
		case api.TokenName:
			m.tokens = append(m.tokens, "name")
		case api.TokenInt:
			m.tokens = append(m.tokens, "digits")
		default:
			m.tokens = append(m.tokens, `"`+token.Text+`"`)
		}
	}
	switch {
	case slices.Contains(m.ends(g.rules[rule], 0), len(tokens)):
		return tokens, 0, api.OK
	case m.reached < len(tokens):
		return nil, tokens[m.reached].At, api.ErrSyntax
	}
	return nil, len(text), api.ErrSyntax
}
