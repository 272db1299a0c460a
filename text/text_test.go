package text_test

import (
	"slices"
	"strings"
	"testing"

	"bucketline/text"
)

// T1: the numbers of the runes, and -1 for each byte that begins none.
func TestRunes(t *testing.T) {
	for _, c := range []struct {
		s    string
		want []int
	}{
		{"", nil},
		{"a", []int{97}},
		{"a b\t\n\x00", []int{97, 32, 98, 9, 10, 0}},
		{"\x7f\u0080\u009f\u00a0", []int{127, 128, 159, 160}},
		{"aé€𝄞", []int{97, 233, 8364, 119070}},
		{"\u07ff\u0800\uffff\U00010000\U0010ffff", []int{0x7ff, 0x800, 0xffff, 0x10000, 0x10ffff}},
		{"\ud7ff\ue000", []int{0xd7ff, 0xe000}},
		{"\x80", []int{-1}},
		{"\xff\xfe", []int{-1, -1}},
		{"\xc3", []int{-1}},
		{"\xc3a", []int{-1, 97}},
		{"\xc3\xc3\xa9", []int{-1, 233}},
		{"é\xa9", []int{233, -1}},
		{"\xe2\x82", []int{-1, -1}},
		{"\xf0\x9d\x84", []int{-1, -1, -1}},
		{"\xc0\x80\xc1\xbf", []int{-1, -1, -1, -1}},
		{"\xe0\x80\x80", []int{-1, -1, -1}},
		{"\xf0\x80\x80\x80", []int{-1, -1, -1, -1}},
		{"\xed\xa0\x80", []int{-1, -1, -1}},
		{"\xf4\x90\x80\x80", []int{-1, -1, -1, -1}},
		{"\ufffd", []int{0xfffd}},
		{"\xef\xbf\xbd", []int{0xfffd}},
		{"\xef\xbf", []int{-1, -1}},
		{"\xef\xbfa", []int{-1, -1, 97}},
		{"\xef\ufffd\xff", []int{-1, 0xfffd, -1}},
	} {
		if got := text.Runes(c.s); !slices.Equal(got, c.want) {
			t.Errorf("Runes(%q) = %v, want %v", c.s, got, c.want)
		}
	}
}

// T1: every rune there is comes back with its number.
func TestRunesEach(t *testing.T) {
	for r := rune(0); r <= 0x10ffff; r++ {
		if 0xd800 <= r && r <= 0xdfff {
			continue
		}
		if got := text.Runes(string(r)); len(got) != 1 || got[0] != int(r) {
			t.Fatalf("Runes of %#x = %v", r, got)
		}
	}
	for b := 128; b < 256; b++ {
		if got := text.Runes(string([]byte{byte(b)})); len(got) != 1 || got[0] != -1 {
			t.Errorf("Runes of the byte %#x = %v", b, got)
		}
	}
}

// P3: a list that is answered is new.
func TestRunesNew(t *testing.T) {
	s := "abc"
	first := text.Runes(s)
	first[0] = 7
	if got := text.Runes(s); !slices.Equal(got, []int{97, 98, 99}) {
		t.Errorf("Runes(%q) = %v after its first answer was changed", s, got)
	}
}

// T1: names have 1 to 32 runes.
func TestNameLength(t *testing.T) {
	for _, part := range []string{"a", "é", "€", "𝄞", "."} {
		for n, want := range map[int]bool{0: false, 1: true, 2: true, 31: true, 32: true, 33: false, 34: false, 1000: false} {
			if got := text.Name(strings.Repeat(part, n)); got != want {
				t.Errorf("Name of %d times %q = %v", n, part, got)
			}
		}
	}
	if text.Name(strings.Repeat("a", 32) + "\xff") {
		t.Error("a byte that begins no rune is a rune by itself: these are 33")
	}
}

// T1: which runes a name may have, alone, first, last and between.
func TestNameRunes(t *testing.T) {
	const ascii = "abcdefghijklmnopqrstuvwxyzABCDEFGHIJKLMNOPQRSTUVWXYZ0123456789-_."
	for r := rune(0); r < 0x300; r++ {
		want := r >= 160 || strings.ContainsRune(ascii, r)
		for _, s := range []string{string(r), string(r) + "a", "a" + string(r), "a" + string(r) + "a"} {
			if got := text.Name(s); got != want {
				t.Errorf("Name(%q) = %v", s, got)
			}
		}
	}
	for s, want := range map[string]bool{
		"stream-1_a.B":     true,
		"-":                true,
		"ünïcode":          true,
		"\ufffd":           true,
		"\U0010ffff":       true,
		"\u2003":           true,
		"\xff":             false,
		"a\x80":            false,
		"\xc2":             false,
		"\xa0":             false,
		"\xed\xa0\x80":     false,
		"\xef\xbf":         false,
		"a b":              false,
		"a\nb":             false,
		`"a"`:              false,
		"a/b":              false,
		"a:b":              false,
		"\xf4\x90\x80\x80": false,
	} {
		if got := text.Name(s); got != want {
			t.Errorf("Name(%q) = %v", s, got)
		}
	}
}
