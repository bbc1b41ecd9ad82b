package lattice

import "keyhole/api"

// number returns the level of each name.
func number(names []string) (map[string]int, api.Code) {
	levels := map[string]int{}
	for i, name := range names {
		if !isName(name) {
			return nil, api.ErrName
		}
		if _, taken := levels[name]; taken {
			return nil, api.ErrDuplicate
		}
		levels[name] = i
	}
	return levels, api.OK
}

// isName reports whether a level may have this name.
func isName(name string) bool {
	if name == "" || len(name) > api.MaxName || !isLetter(name[0]) {
		return false
	}
	for i := 1; i < len(name); i++ {
		if !isLetter(name[i]) && !isDigit(name[i]) {
			return false
		}
	}
	return true
}

// isLetter reports whether b is a lower-case letter.
func isLetter(b byte) bool {
	return b >= 'a' && b <= 'z'
}

// isDigit reports whether b is a decimal digit.
func isDigit(b byte) bool {
	return b >= '0' && b <= '9'
}

// closure returns, for each of size levels, the mask of the levels that the pairs put above it or that are equal to it.
func closure(size int, order [][2]int) []uint64 {
	above := make([]uint64, size)
	for a := range above {
		above[a] = 1 << a
	}
	for _, pair := range order {
		above[pair[0]] |= 1 << pair[1]
	}
	for via := range above {
		for a := range above {
			if above[a]>>via&1 == 1 {
				above[a] |= above[via]
			}
		}
	}
	return above
}

// converse returns the masks of the converse relation.
func converse(masks []uint64) []uint64 {
	other := make([]uint64, len(masks))
	for a, mask := range masks {
		for b := range other {
			other[b] |= (mask >> b & 1) << a
		}
	}
	return other
}

// bound returns the level whose mask is common to the masks of a and b, and whether there is one: the join for masks of levels above, the meet for masks of levels below.
func bound(masks []uint64, a, b int) (int, bool) {
	for c, mask := range masks {
		if mask == masks[a]&masks[b] {
			return c, true
		}
	}
	return 0, false
}

// extreme returns the level whose mask has all levels.
func extreme(masks []uint64) int {
	for a, mask := range masks {
		if mask == 1<<len(masks)-1 {
			return a
		}
	}
	return 0
}
