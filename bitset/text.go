package bitset

import (
	"strconv"
	"strings"

	"keyhole/api"
)

// Text returns the text of s.
func Text(s api.Set) string {
	if !Valid(s) {
		return ""
	}
	var text strings.Builder
	text.WriteByte('{')
	for k, i := range Members(s) {
		if k > 0 {
			text.WriteString(", ")
		}
		text.WriteString(strconv.Itoa(i))
	}
	text.WriteString("}/")
	text.WriteString(strconv.Itoa(s.Size))
	return text.String()
}

// Parse returns the set with a text.
func Parse(text string) (api.Set, api.Code) {
	list, digits, _ := strings.Cut(text, "}/")
	list = strings.TrimPrefix(list, "{")
	members, ok := ascending(list)
	size, err := strconv.Atoi(digits)
	if !ok || err != nil {
		return api.Set{}, api.ErrSyntax
	}
	s, code := Of(size, members)
	// Reading is lenient about everything that the comparison with the one text of the set finds.
	if code != api.OK || Text(s) != text {
		return api.Set{}, api.ErrSyntax
	}
	return s, api.OK
}

// ascending returns the integers of a list, and whether each of them is greater than the one before it.
func ascending(list string) ([]int, bool) {
	var members []int
	last := -1
	for list != "" {
		digits, rest, _ := strings.Cut(list, ", ")
		i, err := strconv.Atoi(digits)
		if err != nil || i <= last {
			return nil, false
		}
		members = append(members, i)
		last = i
		list = rest
	}
	return members, true
}
