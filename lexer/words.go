package lexer

import (
	"strings"

	"keyhole/api"
)

// The words that the language reserves.
const (
	declarationWords = "type secret public random var hatch func return begin end"
	typeWords        = "bool int array of record"
	expressionWords  = "true false min max"
	statementWords   = "call release output wait if else while limit for to settle"
)

// Reserved reports whether the language reserves a word.
func Reserved(word string) bool {
	table := [...]string{declarationWords, typeWords, expressionWords, statementWords}
	for _, words := range table {
		for reserved := range strings.FieldsSeq(words) {
			if word == reserved {
				return true
			}
		}
	}
	return false
}

// IsName reports whether s is a name.
func IsName(s string) bool {
	return s != "" && isLetter(s[0]) && run(s) == s && len(s) <= api.MaxName && !Reserved(s)
}
