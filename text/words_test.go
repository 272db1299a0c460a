package text_test

import (
	"slices"
	"strings"
	"testing"

	"bucketline/api"
	"bucketline/text"
)

// T3: the words of a line.
func TestWords(t *testing.T) {
	for _, c := range []struct {
		line string
		want []string
	}{
		{`a "b c"  d`, []string{"a", "b c", "d"}},
		{"", nil},
		{" ", nil},
		{" \t\t  ", nil},
		{"a", []string{"a"}},
		{"append 1 s -1 made x", []string{"append", "1", "s", "-1", "made", "x"}},
		{"a b", []string{"a", "b"}},
		{"a\tb", []string{"a", "b"}},
		{"a   b\t\tc \t d", []string{"a", "b", "c", "d"}},
		{"  a b", []string{"a", "b"}},
		{"a b \t", []string{"a", "b"}},
		{`""`, []string{""}},
		{`"" "" a`, []string{"", "", "a"}},
		{"\"a\"\t\"b\"", []string{"a", "b"}},
		{` "a" `, []string{"a"}},
		{`"  "`, []string{"  "}},
		{`"a  b" c`, []string{"a  b", "c"}},
		{`"\""`, []string{`"`}},
		{`"a\"b" c`, []string{`a"b`, "c"}},
		{`"a\" b" c`, []string{`a" b`, "c"}},
		{`"\\"`, []string{`\`}},
		{`"\\" "\\\""`, []string{`\`, `\"`}},
		{`"\\\\" "\\\\\"" x`, []string{`\\`, `\\"`, "x"}},
		{`"a\nb\x09" c`, []string{"a\nb\t", "c"}},
		{`"\xff"`, []string{"\xff"}},
		{`a\n \ \\`, []string{`a\n`, `\`, `\\`}},
		{`a\ b`, []string{`a\`, "b"}},
		{"é 𝄞", []string{"é", "𝄞"}},
		{`"é €"`, []string{"é €"}},
		{"a\nb", []string{"a\nb"}},
		{"a\rb\x00c\x7f", []string{"a\rb\x00c\x7f"}},
		{"\n", []string{"\n"}},
		{"a\u00a0b\u2003c", []string{"a\u00a0b\u2003c"}},
		{"\xff \xc3\ta\x80", []string{"\xff", "\xc3", "a\x80"}},
		{"\xc3 \xa9", []string{"\xc3", "\xa9"}},
		{"# 'a b'", []string{"#", "'a", "b'"}},
	} {
		if got, e := text.Words(c.line); !slices.Equal(got, c.want) || e != api.OK {
			t.Errorf("Words(%q) = %q, %v, want %q", c.line, got, e, c.want)
		}
	}
}

// T3: ErrForm, and no words, of lines that are wrong anywhere.
func TestWordsWrong(t *testing.T) {
	for _, part := range []string{
		`a"b`, `a"`, `a""`, `a"b"`, `a"b c"`, `\"`, `\"a"`, "é\"", "\xff\"", "\n\"a\"",
		`"`, `"a`, `"a b`, `"\"`, `"a\"`, `"\\\"`, `"\`, `"a b\" c`,
		`"\q"`, `"\x4"`, `"\x41"`, `"\xFF"`, `"\xc3\xa9"`, "\"a\nb\"", "\"a\tb\"", "\"\x7f\"", "\"\xff\"",
		`"a"b`, `"a""b"`, `""""`, `"""`, `"a"\`, "\"a\"\n", "\"a\"\u00a0", "\"a\"\xff", "\"a\"é", `"a"" b"`,
	} {
		for _, line := range []string{part, " " + part, "a " + part, `"a b" ` + part, "a\t" + part} {
			if got, e := text.Words(line); len(got) != 0 || e != api.ErrForm {
				t.Errorf("Words(%q) = %q, %v", line, got, e)
			}
		}
	}
	for _, line := range []string{`a"b c`, `"a"b c`, `"\x41" c`, `" a`, `a "b c`, `a"b "c"`, `x "a"b "c"`} {
		if got, e := text.Words(line); len(got) != 0 || e != api.ErrForm {
			t.Errorf("Words(%q) = %q, %v", line, got, e)
		}
	}
}

// T3: how each word is told in a line.
func TestLine(t *testing.T) {
	for _, c := range []struct {
		words []string
		want  string
	}{
		{nil, ""},
		{[]string{}, ""},
		{[]string{""}, `""`},
		{[]string{"", ""}, `"" ""`},
		{[]string{"a"}, "a"},
		{[]string{"a", "b", "c"}, "a b c"},
		{[]string{"a", "b c", "d"}, `a "b c" d`},
		{[]string{" "}, `" "`},
		{[]string{"a\tb"}, `"a\x09b"`},
		{[]string{"a\nb"}, `"a\nb"`},
		{[]string{`a"b`}, `"a\"b"`},
		{[]string{`"`, `\"`}, `"\"" "\\\""`},
		{[]string{`\`, `\n`, `a\`}, `\ \n a\`},
		{[]string{"!", "#", "~", "'"}, "! # ~ '"},
		{[]string{"\x1f", " a", "\x7f", "a\x00"}, `"\x1f" " a" "\x7f" "a\x00"`},
		{[]string{"\u0080", "\u009f", "\u00a0", "é", "𝄞"}, "\u0080 \u009f \u00a0 é 𝄞"},
		{[]string{"\ufffd"}, "\ufffd"},
		{[]string{"\xff", "a\xc3", "\xef\xbf"}, `"\xff" "a\xc3" "\xef\xbf"`},
	} {
		if got := text.Line(c.words); got != c.want {
			t.Errorf("Line(%q) = %s, want %s", c.words, got, c.want)
		}
	}
}

// T3: which runes a word may have and stand as it is.
func TestLineRunes(t *testing.T) {
	for r := rune(0); r < 0x300; r++ {
		for _, s := range []string{string(r), "a" + string(r), string(r) + "a"} {
			want := text.Quote(s)
			if r >= 33 && r != '"' && r != 127 {
				want = s
			}
			if got := text.Line([]string{s}); got != want {
				t.Errorf("Line of %q = %s, want %s", s, got, want)
			}
		}
	}
}

// T4: Words of Line are the words.
func TestWordsOfLine(t *testing.T) {
	same := func(words []string) {
		line := text.Line(words)
		if got, e := text.Words(line); !slices.Equal(got, words) || e != api.OK {
			t.Fatalf("Words(%q) = %q, %v, want %q", line, got, e, words)
		}
	}
	same(nil)
	parts := []string{"a", "x", `"`, `\`, " ", "\t", "\n", "\x7f", "\u0085", "é", "\xc3", "\xa9", "\xff"}
	var words []string
	texts(parts, 3, func(s string) {
		same([]string{s})
		same([]string{s, "", s})
		words = append(words, s)
	})
	same(words)
	texts(parts, 1, func(a string) {
		texts(parts, 1, func(b string) {
			texts(parts, 1, func(c string) { same([]string{a, b, c}) })
		})
	})
}

// T3, by another way: a line is cut by bytes, and the words held against Words.
func TestWordsEach(t *testing.T) {
	texts([]string{"a", "n", `"`, `\`, " ", "\t", "é", "\xff"}, 6, func(line string) {
		want, wantErr := wordsByBytes(line)
		if got, e := text.Words(line); !slices.Equal(got, want) || e != wantErr {
			t.Fatalf("Words(%q) = %q, %v, want %q, %v", line, got, e, want, wantErr)
		}
	})
}

func wordsByBytes(line string) ([]string, api.Errno) {
	var words []string
	for at := 0; at < len(line); {
		if strings.IndexByte(" \t", line[at]) >= 0 {
			at++
			continue
		}
		end := at + 1
		if line[at] == '"' {
			for end < len(line) && line[end] != '"' {
				if line[end] == '\\' {
					end++
				}
				end++
			}
			end++
			if end > len(line) || end < len(line) && strings.IndexByte(" \t", line[end]) < 0 {
				return nil, api.ErrForm
			}
			word, e := text.Unquote(line[at:end])
			if e != api.OK {
				return nil, api.ErrForm
			}
			words = append(words, word)
		} else {
			for end < len(line) && strings.IndexByte(" \t", line[end]) < 0 {
				end++
			}
			if strings.IndexByte(line[at:end], '"') >= 0 {
				return nil, api.ErrForm
			}
			words = append(words, line[at:end])
		}
		at = end
	}
	return words, api.OK
}

// P3: the words that are handed in stay as they are, and what lies behind them is left alone.
func TestLineLeavesWords(t *testing.T) {
	all := []string{"a", "b c", `"`, "behind"}
	if got := text.Line(all[:3]); got != `a "b c" "\""` {
		t.Errorf("Line = %s", got)
	}
	if !slices.Equal(all, []string{"a", "b c", `"`, "behind"}) {
		t.Errorf("the words became %q", all)
	}
}

// P3: a list that is answered is new.
func TestWordsNew(t *testing.T) {
	line := `a "b c"`
	first, _ := text.Words(line)
	first[0], first[1] = "x", "y"
	if got, e := text.Words(line); !slices.Equal(got, []string{"a", "b c"}) || e != api.OK {
		t.Errorf("Words(%q) = %q, %v after its first answer was changed", line, got, e)
	}
}

// P1: long lines come to their end, too.
func TestWordsLong(t *testing.T) {
	for part, want := range map[string]int{"a ": 200000, `"" `: 200000, `"a b"` + "\t": 200000, " ": 0, "a": 1, "\\": 1, "\xff ": 200000} {
		line := strings.Repeat(part, 200000)
		if got, e := text.Words(line); len(got) != want || e != api.OK {
			t.Errorf("%q, many times, has %d words, %v", part, len(got), e)
		}
	}
	for _, part := range []string{`"`, `"a`, `\"`, `"a"`, `a" `} {
		if got, e := text.Words(strings.Repeat(part, 200001)); len(got) != 0 || e != api.ErrForm {
			t.Errorf("%q, many times, has %d words, %v", part, len(got), e)
		}
	}
}

func FuzzWords(f *testing.F) {
	for _, s := range []string{"", `a "b c"  d`, `a"b`, `"\\\"" x`, "\xff\t\"é\""} {
		f.Add(s)
	}
	f.Fuzz(func(t *testing.T, line string) {
		want, wantErr := wordsByBytes(line)
		words, e := text.Words(line)
		if !slices.Equal(words, want) || e != wantErr {
			t.Fatalf("Words(%q) = %q, %v, want %q, %v", line, words, e, want, wantErr)
		}
		if got, e := text.Words(text.Line(words)); !slices.Equal(got, words) || e != api.OK {
			t.Errorf("Words of Line(%q) = %q, %v", words, got, e)
		}
	})
}
