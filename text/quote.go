package text

import (
	"unicode/utf8"

	"bucketline/api"
)

const hexDigits = "0123456789abcdef"

// Quote tells a text between quotes, in runes that can be shown.
func Quote(s string) string {
	out := []byte{'"'}
	for i, r := range s {
		n := runeNumber(s, i, r)
		switch {
		case n == '"' || n == '\\':
			out = append(out, '\\', s[i])
		case n == '\n':
			out = append(out, '\\', 'n')
		case isHidden(n):
			out = append(out, '\\', 'x', hexDigits[s[i]>>4], hexDigits[s[i]&15])
		default:
			out = utf8.AppendRune(out, n)
		}
	}
	return string(append(out, '"'))
}

// Unquote answers the text that was quoted.
func Unquote(s string) (string, api.Errno) {
	if len(s) < 2 {
		return "", api.ErrForm
	}
	// Quote tells each text in one way only, so that holding its answer
	// against s finds every fault that unescape passes over.
	out := unescape(s[1 : len(s)-1])
	if Quote(out) != s {
		return "", api.ErrForm
	}
	return out, api.OK
}

// isHidden says whether a rune is a control of ASCII, or none at all: noRune is
// below 32, too.
func isHidden(r rune) bool {
	return r < 32 || r == 127
}

// unescape undoes what Quote does to each rune; of what Quote never tells it
// makes some text.
func unescape(s string) string {
	var out []byte
	escaped := false
	digits, value := 0, 0
	for _, r := range s {
		switch {
		case digits > 0:
			value = value*16 + hexValue(r)
			digits--
			if digits == 0 {
				out = append(out, byte(value))
			}
		case escaped && r == 'x':
			escaped = false
			digits, value = 2, 0
		case escaped && r == 'n':
			escaped = false
			out = append(out, '\n')
		case !escaped && r == '\\':
			escaped = true
		default:
			escaped = false
			out = utf8.AppendRune(out, r)
		}
	}
	return string(out)
}

func hexValue(r rune) int {
	switch {
	case '0' <= r && r <= '9':
		return int(r - '0')
	case 'a' <= r && r <= 'f':
		return int(r-'a') + 10
	}
	return 0
}
