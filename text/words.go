package text

import (
	"strings"

	"bucketline/api"
)

// Words cuts a line, Line makes one.
func Words(line string) ([]string, api.Errno) {
	var words []string
	rest := line[gapLength(line):]
	for rest != "" {
		word, length, err := firstWord(rest)
		if err != api.OK {
			return nil, err
		}
		words = append(words, word)
		rest = rest[length:]
		rest = rest[gapLength(rest):]
	}
	return words, api.OK
}

// Line is the line of which Words are these.
func Line(words []string) string {
	var out []byte
	for i, word := range words {
		if i > 0 {
			out = append(out, ' ')
		}
		if !isPlain(word) {
			word = Quote(word)
		}
		out = append(out, word...)
	}
	return string(out)
}

// isPlain says whether a word can stand in a line without quotes.
func isPlain(word string) bool {
	for i, r := range word {
		n := runeNumber(word, i, r)
		if n <= ' ' || n == '"' || n == 127 {
			return false
		}
	}
	return word != ""
}

func isGap(r rune) bool {
	return r == ' ' || r == '\t'
}

// gapLength is the number of bytes ahead of the first word of s.
func gapLength(s string) int {
	for i, r := range s {
		if !isGap(r) {
			return i
		}
	}
	return len(s)
}

// firstWord is the word that s begins with, and how many bytes of s it takes.
func firstWord(s string) (string, int, api.Errno) {
	if s[0] == '"' {
		return firstQuoted(s)
	}
	return firstPlain(s)
}

func firstPlain(s string) (string, int, api.Errno) {
	length := len(s)
	for i, r := range s {
		if r == '"' {
			return "", 0, api.ErrForm
		}
		if isGap(r) {
			length = i
			break
		}
	}
	// A copy, so that a word that is kept does not hold its whole line.
	return strings.Clone(s[:length]), length, api.OK
}

func firstQuoted(s string) (string, int, api.Errno) {
	length, ended := quotedLength(s)
	if !ended || length < len(s) && !isGap(rune(s[length])) {
		return "", 0, api.ErrForm
	}
	word, err := Unquote(s[:length])
	if err != api.OK {
		return "", 0, err
	}
	return word, length, api.OK
}

// quotedLength is the number of bytes up to the quote that ends the one that s
// begins with, and whether there is one.
func quotedLength(s string) (int, bool) {
	escaped := false
	for i, r := range s {
		switch {
		case i == 0: // the quote that begins the word does not end it
		case escaped:
			escaped = false
		case r == '\\':
			escaped = true
		case r == '"':
			return i + 1, true
		}
	}
	return 0, false
}
