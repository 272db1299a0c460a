package num_test

import (
	"math"
	"strings"
	"testing"

	"bucketline/api"
	"bucketline/num"
)

// N3: a text's length and its bytes.
func TestPutText(t *testing.T) {
	long := strings.Repeat("é", 64)
	for s, want := range map[string]string{
		"":                       "\x00",
		"a":                      "\x01a",
		"ab":                     "\x02ab",
		"é":                      "\x02\xc3\xa9",
		"\x00\xff\x80":           "\x03\x00\xff\x80",
		strings.Repeat("x", 127): "\x7f" + strings.Repeat("x", 127),
		long:                     "\x80\x01" + long,
		strings.Repeat("x", 300): "\xac\x02" + strings.Repeat("x", 300),
	} {
		if got := num.PutText(s); got != want {
			t.Errorf("PutText(%q) = %q, want %q", s, got, want)
		}
	}
}

// N3: what is read off the front, and the errors in their order.
func TestTakeText(t *testing.T) {
	long := strings.Repeat("x", 200)
	for _, c := range []struct {
		s    string
		most int
		text string
		rest string
		err  api.Errno
	}{
		{"\x02abc", 9, "ab", "c", api.OK},
		{"\x02ab", 9, "ab", "", api.OK},
		{"\x00", 9, "", "", api.OK},
		{"\x00abc", 9, "", "abc", api.OK},
		{"\x02\x80\x00\xff", 9, "\x80\x00", "\xff", api.OK},
		{"\xc8\x01" + long + "y", 200, long, "y", api.OK},
		// most, and one more
		{"\x02abc", 2, "ab", "c", api.OK},
		{"\x02abc", 1, "", "", api.ErrLong},
		{"\x00abc", 0, "", "abc", api.OK},
		{"\x01abc", 0, "", "", api.ErrLong},
		{"\x00", -1, "", "", api.ErrLong},
		{"\x00", math.MinInt, "", "", api.ErrLong},
		{"\xc8\x01" + long, 199, "", "", api.ErrLong},
		{"\x80\x80\x80\x80\x80\x20abc", 1<<40 - 1, "", "", api.ErrLong},
		// fewer bytes than the length says
		{"\x02a", 9, "", "", api.ErrShort},
		{"\x02", 9, "", "", api.ErrShort},
		{"\x02a", 2, "", "", api.ErrShort},
		{"\xc8\x01" + long[1:], 200, "", "", api.ErrShort},
		{"\x80\x80\x80\x80\x80\x20abc", 1 << 40, "", "", api.ErrShort},
		{"\x80\x80\x80\x80\x80\x20abc", math.MaxInt, "", "", api.ErrShort},
		// both: ErrLong is named first
		{"\x02a", 1, "", "", api.ErrLong},
		{"\x02", -1, "", "", api.ErrLong},
		// Take's errors come ahead of both
		{"", 9, "", "", api.ErrShort},
		{"", -1, "", "", api.ErrShort},
		{"\x80", -1, "", "", api.ErrShort},
		{"\x80\x80\x80\x80\x80\x80", -1, "", "", api.ErrShort},
		{"\x80\x00", 9, "", "", api.ErrForm},
		{"\x80\x00", -1, "", "", api.ErrForm},
		{"\x80\x80\x80\x80\x80\x80a", -1, "", "", api.ErrForm},
		{"\x81\x80\x80\x80\x80\x20a", math.MaxInt, "", "", api.ErrLong},
	} {
		text, rest, err := num.TakeText(c.s, c.most)
		if text != c.text || rest != c.rest || err != c.err {
			t.Errorf("TakeText(%q, %d) = %q, %q, %d, want %q, %q, %d", c.s, c.most, text, rest, err, c.text, c.rest, c.err)
		}
	}
}

func checkTakeText(t *testing.T, s string, most int) {
	t.Helper()
	text, rest, err := num.TakeText(s, most)
	length, behind, wantErr := take(s)
	if wantErr == api.OK && length > most {
		wantErr = api.ErrLong
	}
	if wantErr == api.OK && length > len(behind) {
		wantErr = api.ErrShort
	}
	wantText, wantRest := "", ""
	if wantErr == api.OK {
		wantText, wantRest = behind[:length], behind[length:]
	}
	if text != wantText || rest != wantRest || err != wantErr {
		t.Fatalf("TakeText(%q, %d) = %q, %q, %d, want %q, %q, %d", s, most, text, rest, err, wantText, wantRest, wantErr)
	}
}

func TestTakeTextOfRows(t *testing.T) {
	rows("\x00\x01\x02\x03\x80\xff", 5, func(s string) {
		for most := -1; most <= 4; most++ {
			checkTakeText(t, s, most)
		}
	})
}

// N4: what was put is taken, whatever is behind it, and no other row of bytes is taken for it.
func TestTakeTextOfPutText(t *testing.T) {
	for _, length := range []int{0, 1, 2, 127, 128, 129, 200, 300, 8000, 16384, 70000} {
		s := strings.Repeat("\x80\x00é~", length/5+1)[:length]
		for _, tail := range tails {
			if got, rest, err := num.TakeText(num.PutText(s)+tail, length); got != s || rest != tail || err != api.OK {
				t.Errorf("TakeText of PutText of %d bytes with % x: %d bytes, % x, %d", length, tail, len(got), rest, err)
			}
		}
	}
	rows("\x00\x01\x02\x03\x80\xff", 5, func(s string) {
		text, rest, err := num.TakeText(s, 9)
		if err == api.OK && num.PutText(text)+rest != s {
			t.Fatalf("TakeText(% x) = % x, % x", s, text, rest)
		}
	})
}

// N3: four bytes, the highest one first.
func TestFixed(t *testing.T) {
	for n, want := range map[uint32]string{
		0:              "\x00\x00\x00\x00",
		1:              "\x00\x00\x00\x01",
		0x80:           "\x00\x00\x00\x80",
		0x100:          "\x00\x00\x01\x00",
		0x01020304:     "\x01\x02\x03\x04",
		0xfffefdfc:     "\xff\xfe\xfd\xfc",
		1 << 31:        "\x80\x00\x00\x00",
		math.MaxUint32: "\xff\xff\xff\xff",
	} {
		if got := num.Fixed(n); got != want {
			t.Errorf("Fixed(%#x) = % x, want % x", n, got, want)
		}
		for _, tail := range tails {
			if got, rest, err := num.TakeFixed(want + tail); got != n || rest != tail || err != api.OK {
				t.Errorf("TakeFixed(% x) = %#x, % x, %d, want %#x, % x", want+tail, got, rest, err, n, tail)
			}
		}
	}
}

// N3: fewer than four bytes.
func TestTakeFixedShort(t *testing.T) {
	for _, s := range []string{"", "\x01", "\x01\x02", "\x01\x02\x03", "\xff\xff\xff", "\x00\x00\x00", "é"} {
		if n, rest, err := num.TakeFixed(s); n != 0 || rest != "" || err != api.ErrShort {
			t.Errorf("TakeFixed(% x) = %d, % x, %d", s, n, rest, err)
		}
	}
}

// N4: each bit comes back, and each row of four bytes is one number's.
func TestTakeFixedOfFixed(t *testing.T) {
	rows("\x00\x01\x80\xff", 6, func(s string) {
		n, rest, err := num.TakeFixed(s)
		if len(s) < 4 {
			if n != 0 || rest != "" || err != api.ErrShort {
				t.Fatalf("TakeFixed(% x) = %d, % x, %d", s, n, rest, err)
			}
			return
		}
		if err != api.OK || num.Fixed(n)+rest != s {
			t.Fatalf("TakeFixed(% x) = %#x, % x, %d", s, n, rest, err)
		}
	})
}

func FuzzTakeText(f *testing.F) {
	f.Add("\x02abc", 9)
	f.Add("\x02a", 1)
	f.Fuzz(func(t *testing.T, s string, most int) {
		checkTakeText(t, s, most)
	})
}
