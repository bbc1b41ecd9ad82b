package cnf

import (
	"strconv"
	"strings"

	"keyhole/api"
)

// maxText is the number of bytes that the text of a formula may have.
const maxText = 4194304

// maxNumber is the number of bytes of the longest numbers in a text, negative ones of five digits.
const maxNumber = 6

// Print returns the text of c.
func Print(c api.Cnf) (string, api.Code) {
	if code := Check(c); code != api.OK {
		return "", code
	}
	var b strings.Builder
	b.WriteString("p cnf " + strconv.Itoa(c.Vars) + " " + strconv.Itoa(len(c.Clauses)) + "\n")
	b.WriteString("c keep " + strconv.Itoa(c.Keep) + "\n")
	for _, clause := range c.Clauses {
		for _, lit := range clause {
			b.WriteString(strconv.Itoa(lit) + " ")
		}
		b.WriteString("0\n")
		if b.Len() > maxText {
			return "", api.ErrLong
		}
	}
	return b.String(), api.OK
}

// Parse returns the formula with the text s.
func Parse(s string) (api.Cnf, api.Code) {
	if len(s) > maxText {
		return api.Cnf{}, api.ErrLong
	}
	r := reader{text: s}
	c := r.formula()
	if printed, code := Print(c); code != api.OK || printed != s {
		return api.Cnf{}, api.ErrSyntax
	}
	return c, api.OK
}

// reader reads a text from a position on. It reads the text of a formula as it should be, and something from any other text, which is then not the text of that.
type reader struct {
	text string
	at   int
}

// formula reads a formula.
func (r *reader) formula() api.Cnf {
	var c api.Cnf
	r.skip("p cnf ")
	c.Vars = r.number()
	r.skip(" ")
	clauses := r.number()
	r.skip("\nc keep ")
	c.Keep = r.number()
	r.skip("\n")
	for range clauses {
		if r.at == len(r.text) {
			break
		}
		c.Clauses = append(c.Clauses, r.clause())
	}
	return c
}

// clause reads the line of a clause.
func (r *reader) clause() []int {
	var clause []int
	for lit := r.number(); lit != 0; lit = r.number() {
		clause = append(clause, lit)
		r.skip(" ")
	}
	r.skip("\n")
	return clause
}

// skip reads a part if it stands here.
func (r *reader) skip(part string) {
	if strings.HasPrefix(r.text[r.at:], part) {
		r.at += len(part)
	}
}

// number reads a number, or returns 0 if there is none.
func (r *reader) number() int {
	end := r.at
	for end < len(r.text) && end-r.at < maxNumber && (r.text[end] == '-' || r.text[end] >= '0' && r.text[end] <= '9') {
		end++
	}
	n, err := strconv.Atoi(r.text[r.at:end])
	if err != nil {
		return 0
	}
	r.at = end
	return n
}
