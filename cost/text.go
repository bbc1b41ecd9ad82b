package cost

import (
	"strconv"
	"strings"

	"keyhole/api"
)

// Print returns the text of c.
func Print(c api.Costs) (string, api.Code) {
	if code := Check(c); code != api.OK {
		return "", code
	}
	var parts []string
	for i, entry := range entries(&c) {
		parts = append(parts, names[i]+" "+strconv.Itoa(*entry))
	}
	return strings.Join(parts, ", "), api.OK
}

// Parse returns the cost model with a text.
func Parse(text string) (api.Costs, api.Code) {
	switch {
	case len(text) > api.MaxText:
		return api.Costs{}, api.ErrLong
	case strings.Trim(text, " ") == "":
		return api.Costs{}, api.OK
	}
	var r reader
	for _, part := range strings.Split(text, ",") {
		if code := r.read(strings.Trim(part, " ")); code != api.OK {
			return api.Costs{}, code
		}
	}
	return r.costs, api.OK
}

// reader has what the parts of a text that are read so far say.
type reader struct {
	costs     api.Costs
	mentioned [len(names)]bool
}

// read reads a part without spaces around it.
func (r *reader) read(part string) api.Code {
	name, number, ok := divide(part)
	if !ok {
		return api.ErrSyntax
	}
	for i, entry := range entries(&r.costs) {
		if names[i] != name {
			continue
		}
		if r.mentioned[i] {
			return api.ErrDuplicate
		}
		r.mentioned[i] = true
		value, err := strconv.Atoi(number)
		// The only error that digits give is that an int cannot hold the number.
		if err != nil || value > api.MaxCost {
			return api.ErrRange
		}
		*entry = value
		return api.OK
	}
	return api.ErrName
}

// divide returns the letters and the digits of a part, if it consists of letters, spaces and a number.
func divide(part string) (name, number string, ok bool) {
	name, rest, ok := strings.Cut(part, " ")
	number = strings.TrimLeft(rest, " ")
	return name, number, ok && consistsOf(name, 'a', 'z') && isNumber(number)
}

// isNumber reports whether s is a decimal number without zeros before it.
func isNumber(s string) bool {
	return consistsOf(s, '0', '9') && (s == "0" || s[0] != '0')
}

// consistsOf reports whether s is not empty and has no other bytes than those from first to last.
func consistsOf(s string, first, last byte) bool {
	for i := range len(s) {
		if s[i] < first || s[i] > last {
			return false
		}
	}
	return s != ""
}
