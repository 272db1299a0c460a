package num_test

import (
	"math"
	"math/big"
	"strings"
	"testing"

	"bucketline/api"
	"bucketline/num"
)

const (
	most    = 1 << 40
	mostInt = 1 << 39
)

// tails are bytes that may stand behind what was put, among them such as would go on with a number.
var tails = []string{"", "\x00", "\x01", "\x7f", "\x80", "\xff", "abc", "\x80\x80\x80\x80\x80\x80\x80", "\x00\x00\x00\x00"}

// rows calls f with each row of up to most of the bytes.
func rows(bytes string, most int, f func(string)) {
	var grow func(s string, left int)
	grow = func(s string, left int) {
		f(s)
		if left == 0 {
			return
		}
		for i := range len(bytes) {
			grow(s+bytes[i:i+1], left-1)
		}
	}
	grow("", most)
}

// around are numbers at which something changes, and those about them.
func around() []int {
	out := []int{math.MinInt, math.MinInt + 1, math.MaxInt, math.MaxInt - 1, 300, -300, 12345678901}
	for bit := range 63 {
		for d := -2; d <= 2; d++ {
			out = append(out, 1<<bit+d, -1<<bit+d)
		}
	}
	return out
}

// bytesOf are the bytes of a number from 0 to 2^40, by dividing.
func bytesOf(n int) string {
	if n < 128 {
		return string([]byte{byte(n)})
	}
	return string([]byte{byte(128 + n%128)}) + bytesOf(n/128)
}

func held(n, low, high int) int {
	if n < low {
		return low
	}
	if n > high {
		return high
	}
	return n
}

// take is N1 word by word: each error is asked for on its own, in the promise's order, and the number has no bound.
func take(s string) (int, string, api.Errno) {
	high := 0
	for high < len(s) && s[high] >= 128 {
		high++
	}
	if high >= 6 && len(s) >= 7 {
		return 0, "", api.ErrForm
	}
	if high == len(s) {
		return 0, "", api.ErrShort
	}
	n := new(big.Int)
	for i := high; i >= 0; i-- {
		n.Lsh(n, 7)
		n.Or(n, big.NewInt(int64(s[i]&127)))
	}
	needed := 1
	if n.BitLen() > 7 {
		needed = (n.BitLen() + 6) / 7
	}
	if high+1 > needed {
		return 0, "", api.ErrForm
	}
	if n.Cmp(big.NewInt(most)) > 0 {
		return 0, "", api.ErrLong
	}
	return int(n.Int64()), s[high+1:], api.OK
}

// N1: the bytes of a number.
func TestPut(t *testing.T) {
	for n, want := range map[int]string{
		0:             "\x00",
		1:             "\x01",
		9:             "\x09",
		127:           "\x7f",
		128:           "\x80\x01",
		129:           "\x81\x01",
		255:           "\xff\x01",
		256:           "\x80\x02",
		300:           "\xac\x02",
		16383:         "\xff\x7f",
		16384:         "\x80\x80\x01",
		1 << 21:       "\x80\x80\x80\x01",
		1<<35 - 1:     "\xff\xff\xff\xff\x7f",
		1 << 35:       "\x80\x80\x80\x80\x80\x01",
		1<<40 - 1:     "\xff\xff\xff\xff\xff\x1f",
		1 << 40:       "\x80\x80\x80\x80\x80\x20",
		1<<40 + 1:     "\x80\x80\x80\x80\x80\x20",
		1 << 41:       "\x80\x80\x80\x80\x80\x20",
		1 << 42:       "\x80\x80\x80\x80\x80\x20",
		math.MaxInt:   "\x80\x80\x80\x80\x80\x20",
		-1:            "\x00",
		-128:          "\x00",
		math.MinInt:   "\x00",
		math.MinInt32: "\x00",
	} {
		if got := num.Put(n); got != want {
			t.Errorf("Put(%d) = % x, want % x", n, got, want)
		}
	}
	for _, n := range around() {
		if got, want := num.Put(n), bytesOf(held(n, 0, most)); got != want {
			t.Errorf("Put(%d) = % x, want % x", n, got, want)
		}
	}
}

// N1: what is read off the front, and the errors.
func TestTake(t *testing.T) {
	for _, c := range []struct {
		s    string
		n    int
		rest string
		err  api.Errno
	}{
		{"\xac\x02\x09", 300, "\x09", api.OK},
		{"\x00", 0, "", api.OK},
		{"\x00\x00", 0, "\x00", api.OK},
		{"\x7f\x80", 127, "\x80", api.OK},
		{"\x80\x01", 128, "", api.OK},
		{"\xff\xff\xff\xff\xff\x1fx", 1<<40 - 1, "x", api.OK},
		{"\x80\x80\x80\x80\x80\x20", 1 << 40, "", api.OK},
		{"\x80\x80\x80\x80\x80\x20\x80", 1 << 40, "\x80", api.OK},
		// no byte, and an end within it
		{"", 0, "", api.ErrShort},
		{"\x80", 0, "", api.ErrShort},
		{"\xff", 0, "", api.ErrShort},
		{"\x80\x80\x80\x80\x80", 0, "", api.ErrShort},
		{"\xff\xff\xff\xff\xff", 0, "", api.ErrShort},
		// six bytes of 128 or more, with none and with one behind them
		{"\x80\x80\x80\x80\x80\x80", 0, "", api.ErrShort},
		{"\xff\xff\xff\xff\xff\xff", 0, "", api.ErrShort},
		{"\x80\x80\x80\x80\x80\x80\x00", 0, "", api.ErrForm},
		{"\x80\x80\x80\x80\x80\x80\x01", 0, "", api.ErrForm},
		{"\xff\xff\xff\xff\xff\xff\x7f", 0, "", api.ErrForm},
		{"\xff\xff\xff\xff\xff\xff\xff", 0, "", api.ErrForm},
		{"\x80\x80\x80\x80\x80\x80\x80", 0, "", api.ErrForm},
		{"\x80\x80\x80\x80\x80\x80abc", 0, "", api.ErrForm},
		{strings.Repeat("\xff", 20), 0, "", api.ErrForm},
		// more groups than are needed
		{"\x80\x00", 0, "", api.ErrForm},
		{"\x80\x00\x01", 0, "", api.ErrForm},
		{"\xff\x00", 0, "", api.ErrForm},
		{"\x81\x80\x00", 0, "", api.ErrForm},
		{"\x80\x80\x80\x80\x80\x00", 0, "", api.ErrForm},
		{"\xff\xff\xff\xff\xff\x00x", 0, "", api.ErrForm},
		// above 2^40
		{"\x81\x80\x80\x80\x80\x20", 0, "", api.ErrLong},
		{"\x80\x80\x80\x80\x81\x20x", 0, "", api.ErrLong},
		{"\x80\x80\x80\x80\x80\x21", 0, "", api.ErrLong},
		{"\x80\x80\x80\x80\x80\x40", 0, "", api.ErrLong},
		{"\xff\xff\xff\xff\xff\x7fx", 0, "", api.ErrLong},
	} {
		n, rest, err := num.Take(c.s)
		if n != c.n || rest != c.rest || err != c.err {
			t.Errorf("Take(% x) = %d, % x, %d, want %d, % x, %d", c.s, n, rest, err, c.n, c.rest, c.err)
		}
	}
}

func checkTake(t *testing.T, s string) {
	t.Helper()
	n, rest, err := num.Take(s)
	wantN, wantRest, wantErr := take(s)
	if n != wantN || rest != wantRest || err != wantErr {
		t.Fatalf("Take(% x) = %d, % x, %d, want %d, % x, %d", s, n, rest, err, wantN, wantRest, wantErr)
	}
}

// N1: all short rows of bytes, and longer ones of the bytes that matter.
func TestTakeOfRows(t *testing.T) {
	all := make([]byte, 256)
	for i := range all {
		all[i] = byte(i)
	}
	rows(string(all), 2, func(s string) { checkTake(t, s) })
	rows("\x00\x01\x20\x7f\x80\x81\xff", 7, func(s string) { checkTake(t, s) })
	rows("\x00\x1f\x20\x21\x80", 4, func(s string) {
		checkTake(t, "\x80\x80\x80\x80"+s)
		checkTake(t, "\x80\xff\x80\x80\x80"+s)
	})
}

// N2: numbers that may be below 0.
func TestPutInt(t *testing.T) {
	for n, want := range map[int]string{
		0:           "\x00",
		-1:          "\x01",
		1:           "\x02",
		-2:          "\x03",
		2:           "\x04",
		63:          "\x7e",
		-64:         "\x7f",
		64:          "\x80\x01",
		-65:         "\x81\x01",
		150:         "\xac\x02",
		-151:        "\xad\x02",
		1<<39 - 1:   "\xfe\xff\xff\xff\xff\x1f",
		1 << 39:     "\x80\x80\x80\x80\x80\x20",
		1<<39 + 1:   "\x80\x80\x80\x80\x80\x20",
		1 << 40:     "\x80\x80\x80\x80\x80\x20",
		math.MaxInt: "\x80\x80\x80\x80\x80\x20",
		1<<62 + 1:   "\x80\x80\x80\x80\x80\x20",
		-1<<39 + 1:  "\xfd\xff\xff\xff\xff\x1f",
		-1 << 39:    "\xff\xff\xff\xff\xff\x1f",
		-1<<39 - 1:  "\xff\xff\xff\xff\xff\x1f",
		-1 << 40:    "\xff\xff\xff\xff\xff\x1f",
		-1<<62 - 1:  "\xff\xff\xff\xff\xff\x1f",
		math.MinInt: "\xff\xff\xff\xff\xff\x1f",
	} {
		if got := num.PutInt(n); got != want {
			t.Errorf("PutInt(%d) = % x, want % x", n, got, want)
		}
	}
	for _, n := range around() {
		h := held(n, -mostInt, mostInt)
		want := num.Put(2 * h)
		if h < 0 {
			want = num.Put(-2*h - 1)
		}
		if got := num.PutInt(n); got != want {
			t.Errorf("PutInt(%d) = % x, want % x", n, got, want)
		}
	}
}

// N2: TakeInt has Take's errors, and undoes what PutInt does.
func TestTakeInt(t *testing.T) {
	for s, want := range map[string]int{
		"\x00":                     0,
		"\x01":                     -1,
		"\x02":                     1,
		"\x03":                     -2,
		"\x7f":                     -64,
		"\x80\x01":                 64,
		"\xac\x02":                 150,
		"\xfe\xff\xff\xff\xff\x1f": 1<<39 - 1,
		"\xff\xff\xff\xff\xff\x1f": -1 << 39,
		"\x80\x80\x80\x80\x80\x20": 1 << 39,
	} {
		for _, tail := range tails {
			if n, rest, err := num.TakeInt(s + tail); n != want || rest != tail || err != api.OK {
				t.Errorf("TakeInt(% x) = %d, % x, %d, want %d, % x", s+tail, n, rest, err, want, tail)
			}
		}
	}
	rows("\x00\x01\x20\x7f\x80\x81\xff", 7, func(s string) {
		n, rest, err := num.TakeInt(s)
		put, wantRest, wantErr := take(s)
		want := put / 2
		if put%2 != 0 {
			want = -put/2 - 1
		}
		if n != want || rest != wantRest || err != wantErr {
			t.Fatalf("TakeInt(% x) = %d, % x, %d, want %d, % x, %d", s, n, rest, err, want, wantRest, wantErr)
		}
	})
}

// N4: what was put is taken, whatever is behind it.
func TestTakeOfPut(t *testing.T) {
	for _, n := range around() {
		for _, tail := range tails {
			want := held(n, 0, most)
			if got, rest, err := num.Take(num.Put(n) + tail); got != want || rest != tail || err != api.OK {
				t.Fatalf("Take of Put(%d) with % x = %d, % x, %d", n, tail, got, rest, err)
			}
			want = held(n, -mostInt, mostInt)
			if got, rest, err := num.TakeInt(num.PutInt(n) + tail); got != want || rest != tail || err != api.OK {
				t.Fatalf("TakeInt of PutInt(%d) with % x = %d, % x, %d", n, tail, got, rest, err)
			}
		}
	}
}

// N4: what is taken was put so, and no other row of bytes is taken for it.
func TestOneRowOfBytes(t *testing.T) {
	found := map[int]string{}
	rows("\x00\x01\x20\x7f\x80\x81\xff", 7, func(s string) {
		n, rest, err := num.Take(s)
		if err != api.OK {
			return
		}
		front := s[:len(s)-len(rest)]
		if num.Put(n) != front {
			t.Fatalf("Take(% x) = %d, which is put as % x", s, n, num.Put(n))
		}
		if other, ok := found[n]; ok && other != front {
			t.Fatalf("%d is taken from % x and from % x", n, other, front)
		}
		found[n] = front
		if i, _, err := num.TakeInt(s); err != api.OK || num.PutInt(i) != front {
			t.Fatalf("TakeInt(% x) = %d, %d, which is put as % x", s, i, err, num.PutInt(i))
		}
	})
}

func FuzzTake(f *testing.F) {
	f.Add("\xac\x02\x09")
	f.Add("\x80\x80\x80\x80\x80\x80\x01")
	f.Fuzz(func(t *testing.T, s string) {
		checkTake(t, s)
	})
}
