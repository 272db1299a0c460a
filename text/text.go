// Package text: names and quotes: layer 1: see shared/doc/01-text.md.
package text

import (
	"strings"
	"unicode/utf8"

	"bucketline/api"
)

// noRune is the number of a byte that begins no rune.
const noRune = -1

// Runes are the numbers of a text's.
func Runes(s string) []int {
	var numbers []int
	for i, r := range s {
		numbers = append(numbers, int(runeNumber(s, i, r)))
	}
	return numbers
}

// Name says whether a text may name something.
func Name(s string) bool {
	count := 0
	for i, r := range s {
		count++
		if count > api.MaxName || !isNameRune(runeNumber(s, i, r)) {
			return false
		}
	}
	return count > 0
}

// runeNumber is the number of the rune r that range tells at s[i]. Range tells
// a byte that begins no rune as U+FFFD, which a text may also hold as a rune of
// its own: only the bytes tell the two apart.
func runeNumber(s string, i int, r rune) rune {
	if r == utf8.RuneError && !strings.HasPrefix(s[i:], string(utf8.RuneError)) {
		return noRune
	}
	return r
}

func isNameRune(r rune) bool {
	switch {
	case 'a' <= r && r <= 'z', 'A' <= r && r <= 'Z', '0' <= r && r <= '9':
		return true
	case r == '-', r == '_', r == '.':
		return true
	}
	return r >= 160
}
