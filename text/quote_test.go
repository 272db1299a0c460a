package text_test

import (
	"fmt"
	"strings"
	"testing"

	"bucketline/api"
	"bucketline/text"
)

// texts calls f with each text of up to most of the parts.
func texts(parts []string, most int, f func(string)) {
	var grow func(s string, left int)
	grow = func(s string, left int) {
		f(s)
		if left == 0 {
			return
		}
		for _, p := range parts {
			grow(s+p, left-1)
		}
	}
	grow("", most)
}

// T2: what Quote tells, and that Unquote takes it back.
func TestQuote(t *testing.T) {
	for s, want := range map[string]string{
		"a\"\\\n\xff":         `"a\"\\\n\xff"`,
		"":                    `""`,
		"a":                   `"a"`,
		"a b":                 `"a b"`,
		`"`:                   `"\""`,
		`\`:                   `"\\"`,
		`\"`:                  `"\\\""`,
		`"\`:                  `"\"\\"`,
		`\n`:                  `"\\n"`,
		`\x41`:                `"\\x41"`,
		"\n":                  `"\n"`,
		"\t":                  `"\x09"`,
		"\r":                  `"\x0d"`,
		"\x00\x1f\x7f":        `"\x00\x1f\x7f"`,
		" !~":                 `" !~"`,
		"\u0080\u009f\u00a0":  "\"\u0080\u009f\u00a0\"",
		"é€𝄞":                 `"é€𝄞"`,
		"\ufffd":              "\"\ufffd\"",
		"\x80\xff":            `"\x80\xff"`,
		"\xc3":                `"\xc3"`,
		"\xc3é":               `"\xc3é"`,
		"é\xa9":               `"é\xa9"`,
		"\xef\xbf":            `"\xef\xbf"`,
		"\xef\xbf\ufffd":      "\"\\xef\\xbf\ufffd\"",
		"\xed\xa0\x80":        `"\xed\xa0\x80"`,
		"\xf4\x90\x80\x80":    `"\xf4\x90\x80\x80"`,
		"\xc3\n\xa9":          `"\xc3\n\xa9"`,
		"name: \"x\", \\ end": `"name: \"x\", \\ end"`,
	} {
		if got := text.Quote(s); got != want {
			t.Errorf("Quote(%q) = %s, want %s", s, got, want)
		}
		if got, e := text.Unquote(want); got != s || e != api.OK {
			t.Errorf("Unquote(%s) = %q, %v, want %q", want, got, e, s)
		}
	}
}

// T2: each byte by itself.
func TestQuoteBytes(t *testing.T) {
	for b := 0; b < 256; b++ {
		s := string([]byte{byte(b)})
		want := `"` + s + `"`
		switch {
		case b == '"' || b == '\\':
			want = `"\` + s + `"`
		case b == '\n':
			want = `"\n"`
		case b < 32 || b >= 127:
			want = fmt.Sprintf(`"\x%02x"`, b)
		}
		if got := text.Quote(s); got != want {
			t.Errorf("Quote of the byte %d = %s, want %s", b, got, want)
		}
		if got, e := text.Unquote(want); got != s || e != api.OK {
			t.Errorf("Unquote(%s) = %q, %v", want, got, e)
		}
	}
}

// T2: each rune beyond ASCII stands as it is.
func TestQuoteRunes(t *testing.T) {
	for r := rune(128); r <= 0x10ffff; r++ {
		if 0xd800 <= r && r <= 0xdfff {
			continue
		}
		s := string(r)
		if got := text.Quote(s); got != `"`+s+`"` {
			t.Fatalf("Quote(%q) = %s", s, got)
		}
	}
}

// T2: ErrForm, and no text, of what Quote does not tell.
func TestUnquoteWrong(t *testing.T) {
	for _, s := range []string{
		"", `"`, `""a`, `a""`, `'a'`, "a", `"a`, `a"`, ` "a"`, `"a" `, `"""`, `"a"b"`, `""""`,
		`\"`, `"\"`, `"\\\"`, `"\`, `\""`,
		`"\q"`, `"\N"`, `"\t"`, `"\ "`, `"\é"`, "\"\\\n\"", `"\u00e9"`, `"\0"`,
		`"\x"`, `"\x4"`, `"\x4g"`, `"\xg4"`, `"\x 4"`, `"\xé"`, `"\x0"`, `"\x\x00"`, `"\X00"`,
		`"\x41"`, `"\x20"`, `"\x22"`, `"\x5c"`, `"\x0a"`, `"\x7e"`,
		`"\xFF"`, `"\xfF"`, `"\x0A"`, `"\x1F"`,
		`"\xc3\xa9"`, `"\xe2\x82\xac"`, `"\xef\xbf\xbd"`, `"a\xc2\x80"`,
		"\"\n\"", "\"\t\"", "\"\x00\"", "\"\x1f\"", "\"\x7f\"",
		"\"\x80\"", "\"\xff\"", "\"\xc3\"", "\"\xef\xbf\"", "\"\\xc3\xa9\"", "\"\xc3\\xa9\"", "\"\\\xff\"", "\"\\x\xff\xff\"",
		"“a”", "\xff\"a\"", "\"a\"\xff",
	} {
		if got, e := text.Unquote(s); got != "" || e != api.ErrForm {
			t.Errorf("Unquote(%q) = %q, %v", s, got, e)
		}
	}
}

// T2: of all short texts, just those unquote that Quote tells of some text.
func TestUnquoteEach(t *testing.T) {
	const most = 7
	quoted := map[string]string{}
	texts([]string{`"`, `\`, "n", "x", "0", "a", "\n", "\x00", "\x0a", "\xa0", "\xaa"}, 3, func(s string) {
		quoted[text.Quote(s)] = s
	})
	texts([]string{"n", "x", "0", "a"}, most-2, func(s string) {
		quoted[text.Quote(s)] = s
	})
	texts([]string{`"`, `\`, "n", "x", "0", "a"}, most-2, func(inner string) {
		s := `"` + inner + `"`
		got, e := text.Unquote(s)
		if e == api.OK && text.Quote(got) != s {
			t.Errorf("Unquote(%s) = %q, of which Quote tells %s", s, got, text.Quote(got))
		}
		if e != api.OK && (e != api.ErrForm || got != "") {
			t.Errorf("Unquote(%s) = %q, %v", s, got, e)
		}
		if want, ok := quoted[s]; ok && (e != api.OK || got != want) {
			t.Errorf("Unquote(%s) = %q, %v, want %q", s, got, e, want)
		}
	})
}

// T4: Unquote of Quote is what was quoted; no two texts are told alike.
func TestUnquoteOfQuote(t *testing.T) {
	parts := []string{"a", "n", "x", "6", `"`, `\`, " ", "\t", "\n", "\x00", "\x7f", "é", "\xc3", "\xa9", "\xef", "\xbf", "\xbd", "\xff"}
	told := map[string]int{}
	texts(parts, 4, func(s string) {
		q := text.Quote(s)
		told[q]++
		if got, e := text.Unquote(q); got != s || e != api.OK {
			t.Fatalf("Unquote(%s) = %q, %v, want %q", q, got, e, s)
		}
	})
	distinct := map[string]int{}
	texts(parts, 4, func(s string) { distinct[s]++ })
	if len(told) != len(distinct) {
		t.Errorf("%d texts are told in %d ways", len(distinct), len(told))
	}
}

// P1: long texts come to their end, too.
func TestQuoteLong(t *testing.T) {
	for _, part := range []string{"a", `"`, `\`, "\n", "\x00", "é", "\xff", `\x`, `\"`} {
		s := strings.Repeat(part, 200000)
		if got, e := text.Unquote(text.Quote(s)); got != s || e != api.OK {
			t.Errorf("%q, many times, does not come back: %v", part, e)
		}
		if got, e := text.Unquote(s); got != "" || e != api.ErrForm {
			t.Errorf("%q, many times, unquotes: %v", part, e)
		}
	}
}

func FuzzQuote(f *testing.F) {
	for _, s := range []string{"", `"`, `"a"`, `"\xff"`, "a\"\\\n\xff", "\ufffd\xef"} {
		f.Add(s)
	}
	f.Fuzz(func(t *testing.T, s string) {
		if got, e := text.Unquote(text.Quote(s)); got != s || e != api.OK {
			t.Errorf("Unquote of Quote(%q) = %q, %v", s, got, e)
		}
		got, e := text.Unquote(s)
		if e == api.OK && text.Quote(got) != s || e != api.OK && (e != api.ErrForm || got != "") {
			t.Errorf("Unquote(%q) = %q, %v", s, got, e)
		}
	})
}
