package frame_test

import (
	"encoding/binary"
	"hash/crc32"
	"slices"
	"strings"
	"testing"

	"bucketline/api"
	"bucketline/frame"
)

const headBytes = 8

// framed follows the chapter's words, by the library's sum and numbers; it frames what must not be framed, too.
func framed(payload string) string {
	length := binary.BigEndian.AppendUint32(nil, uint32(len(payload)))
	sum := crc32.ChecksumIEEE(append(slices.Clone(length), payload...))
	return string(binary.BigEndian.AppendUint32(length, sum)) + payload
}

// take follows F1, one word after another.
func take(s string) (string, string, api.Errno) {
	if len(s) < headBytes {
		return "", "", api.ErrShort
	}
	length := int(binary.BigEndian.Uint32([]byte(s[:4])))
	behind := s[headBytes:]
	if length == 0 {
		return "", "", api.ErrForm
	}
	if length > 8000 {
		return "", "", api.ErrLong
	}
	if len(behind) < length {
		return "", "", api.ErrShort
	}
	if framed(behind[:length]) != s[:headBytes+length] {
		return "", "", api.ErrSum
	}
	return behind[:length], behind[length:], api.OK
}

// scan follows F2.
func scan(s string) ([]string, int) {
	var payloads []string
	bytes := 0
	for {
		payload, rest, err := take(s)
		if err != api.OK {
			return payloads, bytes
		}
		payloads = append(payloads, payload)
		bytes += len(s) - len(rest)
		s = rest
	}
}

func checkTake(t *testing.T, s string) {
	t.Helper()
	payload, rest, err := frame.Take(s)
	wantPayload, wantRest, wantErr := take(s)
	if payload != wantPayload || rest != wantRest || err != wantErr {
		t.Fatalf("Take(%.60q) = %.60q, %.60q, %d, want %.60q, %.60q, %d", s, payload, rest, err, wantPayload, wantRest, wantErr)
	}
}

func checkScan(t *testing.T, s string, want []string, wantBytes int) {
	t.Helper()
	if got, bytes := frame.Scan(s); !slices.Equal(got, want) || bytes != wantBytes {
		t.Fatalf("Scan(%.60q) = %.60q, %d, want %.60q, %d", s, got, bytes, want, wantBytes)
	}
}

func row(t *testing.T, payloads ...string) string {
	t.Helper()
	s, err := frame.Row(payloads)
	if err != api.OK {
		t.Fatalf("Row(%.60q): %d", payloads, err)
	}
	return s
}

func allBytes() string {
	var all strings.Builder
	for b := range 256 {
		all.WriteByte(byte(b))
	}
	return all.String()
}

// somePayloads are all right.
func somePayloads() []string {
	return []string{
		"a", "abc", "\x00", "\x80", "\xff", "\x80\xff", "\x00\x00\x00\x00", "\xff\xff\xff\xff\xff", "grün, 水, \U0001f4a7", "\xc3\x28",
		framed("inner"), strings.Repeat("\x00", 16), allBytes(),
		strings.Repeat("x", 127), strings.Repeat("\xfe", 255), strings.Repeat("y", 256), strings.Repeat("\x80z", 3999), strings.Repeat("w", 7999), strings.Repeat("\xff", 8000),
	}
}

// someTails begin no frame.
func someTails() []string {
	wrong := []byte(framed("abc"))
	wrong[len(wrong)-1] ^= 1
	return []string{
		"", "x", "\x00", "\x00\x00\x00\x01", "\x00\x00\x00\x01\x00\x00\x00", strings.Repeat("\x00", 8), strings.Repeat("\xff", 8), strings.Repeat("\x00", 100), strings.Repeat("\xff", 9000),
		framed(""), framed("abc")[:10], framed(strings.Repeat("x", 8001)), string(wrong), string(wrong) + framed("whole"), framed("") + framed("whole"), "x" + framed("whole"),
	}
}

// F1: the chapter's examples, and rows of bytes written out.
func TestPut(t *testing.T) {
	if s, err := frame.Put("abc"); len(s) != 11 || err != api.OK {
		t.Errorf("Put(abc): %d bytes, %d", len(s), err)
	}
	for payload, want := range map[string]string{
		"a":        "\x00\x00\x00\x01\xe5\x8c\x97\x92a",
		"b":        "\x00\x00\x00\x01\x7c\x85\xc6\x28b",
		"abc":      "\x00\x00\x00\x03\x45\xbc\xe8\x40abc",
		"\x80\xff": "\x00\x00\x00\x02\xa4\xc7\x02\x0b\x80\xff",
		"\x00":     "\x00\x00\x00\x01\xdf\x39\xc6\x5c\x00",
		"\xff":     "\x00\x00\x00\x01\xf2\x3b\x29\xd1\xff",
	} {
		if got, err := frame.Put(payload); got != want || err != api.OK {
			t.Errorf("Put(%q) = % x, %d, want % x", payload, got, err, want)
		}
	}
	for _, payload := range somePayloads() {
		if got, err := frame.Put(payload); got != framed(payload) || err != api.OK {
			t.Errorf("Put(%.60q) = %.60q, %d", payload, got, err)
		}
	}
}

// F1: no byte, and more than 8000 of them.
func TestPutOfWrongPayloads(t *testing.T) {
	if s, err := frame.Put(""); s != "" || err != api.ErrForm {
		t.Errorf("Put of nothing = %q, %d", s, err)
	}
	for _, length := range []int{8001, 8002, 16000, 1 << 16, 1 << 20} {
		if s, err := frame.Put(strings.Repeat("x", length)); s != "" || err != api.ErrLong {
			t.Errorf("Put of %d bytes: %d bytes, %d", length, len(s), err)
		}
	}
	for _, length := range []int{1, 2, 255, 256, 7999, 8000} {
		if s, err := frame.Put(strings.Repeat("\x80", length)); len(s) != length+headBytes || err != api.OK {
			t.Errorf("Put of %d bytes: %d bytes, %d", length, len(s), err)
		}
	}
	// 4001 runes of 2 bytes: bytes are counted.
	if s, err := frame.Put(strings.Repeat("é", 4001)); s != "" || err != api.ErrLong {
		t.Errorf("Put of 8002 bytes: %d bytes, %d", len(s), err)
	}
}

// F1: what was put is taken, with what is behind it, frame or not.
func TestTakeOfPut(t *testing.T) {
	for _, payload := range somePayloads() {
		s, _ := frame.Put(payload)
		for _, tail := range append(someTails(), framed("more"), framed("more")+"x") {
			if got, rest, err := frame.Take(s + tail); got != payload || rest != tail || err != api.OK {
				t.Errorf("Take of Put(%.60q) with %.60q = %.60q, %.60q, %d", payload, tail, got, rest, err)
			}
		}
	}
}

// F1: each error, and their order where more than one would do.
func TestTakeOfWrongBytes(t *testing.T) {
	abc, most := framed("abc"), framed(strings.Repeat("x", 8000))
	for _, c := range []struct {
		what, s string
		want    api.Errno
	}{
		{"no byte", "", api.ErrShort},
		{"one byte", "\x00", api.ErrShort},
		{"four bytes", abc[:4], api.ErrShort},
		{"seven bytes", abc[:7], api.ErrShort},
		{"seven bytes, of a length 0", strings.Repeat("\x00", 7), api.ErrShort},
		{"seven bytes, of a length above 8000", strings.Repeat("\xff", 7), api.ErrShort},
		{"a length 0 with its sum", framed(""), api.ErrForm},
		{"a length 0 with another sum", strings.Repeat("\x00", 8), api.ErrForm},
		{"a length 0 with bytes behind", framed("") + "abc", api.ErrForm},
		{"a length 0 ahead of a frame", strings.Repeat("\x00", 8) + abc, api.ErrForm},
		{"a length 8001 with all its bytes and its sum", framed(strings.Repeat("x", 8001)), api.ErrLong},
		{"a length 8001 with fewer bytes", framed(strings.Repeat("x", 8001))[:8008], api.ErrLong},
		{"a length 8001 with no bytes and another sum", "\x00\x00\x1f\x41\x00\x00\x00\x00", api.ErrLong},
		{"a length 8001 with another sum", "\x00\x00\x1f\x41\x00\x00\x00\x00" + strings.Repeat("x", 8001), api.ErrLong},
		{"a length 2^16 + 1", "\x00\x01\x00\x01\x00\x00\x00\x00abc", api.ErrLong},
		{"a length 2^31", "\x80\x00\x00\x00\x00\x00\x00\x00abc", api.ErrLong},
		{"a length 2^31 + 3", "\x80\x00\x00\x03" + abc[4:], api.ErrLong},
		{"a length 2^32 - 1", "\xff\xff\xff\xff\x00\x00\x00\x00abc", api.ErrLong},
		{"no byte behind", abc[:8], api.ErrShort},
		{"a byte fewer behind", abc[:10], api.ErrShort},
		{"fewer bytes behind, and another sum", abc[:4] + "\x00\x00\x00\x00ab", api.ErrShort},
		{"a byte fewer than 8000", most[:8007], api.ErrShort},
		{"a length 8000 with no bytes", most[:8], api.ErrShort},
		{"another payload", abc[:10] + "d", api.ErrSum},
		{"another payload with bytes behind", abc[:10] + "dmore", api.ErrSum},
		{"another sum", abc[:4] + "\x00\x00\x00\x00abc", api.ErrSum},
		{"another sum ahead of a frame", abc[:4] + "\x00\x00\x00\x00abc" + abc, api.ErrSum},
		{"the sum of the payload alone", abc[:4] + "\x35\x24\x41\xc2abc", api.ErrSum},
		{"the sum's bytes turned round", abc[:4] + "\x40\xe8\xbc\x45abc", api.ErrSum},
		{"the length's bytes turned round", "\x03\x00\x00\x00" + abc[4:], api.ErrLong},
		{"a lesser length", "\x00\x00\x00\x02" + abc[4:], api.ErrSum},
		{"a greater length", "\x00\x00\x00\x04" + abc[4:] + "d", api.ErrSum},
		{"8000 bytes, the last one another", most[:8007] + "y", api.ErrSum},
	} {
		if payload, rest, err := frame.Take(c.s); payload != "" || rest != "" || err != c.want {
			t.Errorf("Take of %s = %.60q, %.60q, %d, want %d", c.what, payload, rest, err, c.want)
		}
	}
}

// F1: every length that two bytes tell, with too few bytes, and with enough of them.
func TestTakeOfEveryLength(t *testing.T) {
	behind := strings.Repeat("x", 8100)
	for length := range 1 << 16 {
		head := string([]byte{0, 0, byte(length >> 8), byte(length)}) + "\x00\x00\x00\x00"
		checkTake(t, head)
		checkTake(t, head+"\x00")
		if length < 300 || length > 7900 && length < 8200 {
			checkTake(t, head+behind)
			checkTake(t, framed(behind[:min(length, 8100)])+"tail")
		}
	}
}

// F2: none, some, and the frames of all one behind the other.
func TestRow(t *testing.T) {
	for _, none := range [][]string{nil, {}} {
		if s, err := frame.Row(none); s != "" || err != api.OK {
			t.Errorf("Row of none = %q, %d", s, err)
		}
	}
	if s, err := frame.Row([]string{"a", "b"}); s != "\x00\x00\x00\x01\xe5\x8c\x97\x92a\x00\x00\x00\x01\x7c\x85\xc6\x28b" || err != api.OK {
		t.Errorf("Row(a, b) = % x, %d", s, err)
	}
	want := ""
	for i, payload := range somePayloads() {
		want += framed(payload)
		if s, err := frame.Row(somePayloads()[:i+1]); s != want || err != api.OK {
			t.Errorf("Row of %d payloads: %d bytes, %d, want %d bytes", i+1, len(s), err, len(want))
		}
	}
	many := slices.Repeat([]string{"same"}, 3000)
	if s, err := frame.Row(many); s != strings.Repeat(framed("same"), 3000) || err != api.OK {
		t.Errorf("Row of 3000: %d bytes, %d", len(s), err)
	}
}

// F2: the first error, wherever it is.
func TestRowOfWrongPayloads(t *testing.T) {
	long := strings.Repeat("x", 8001)
	for _, c := range []struct {
		l    []string
		want api.Errno
	}{
		{[]string{""}, api.ErrForm},
		{[]string{long}, api.ErrLong},
		{[]string{"", "a"}, api.ErrForm},
		{[]string{long, "a"}, api.ErrLong},
		{[]string{"a", "", "b"}, api.ErrForm},
		{[]string{"a", long, "b"}, api.ErrLong},
		{[]string{"a", "b", ""}, api.ErrForm},
		{[]string{"a", "b", long}, api.ErrLong},
		{[]string{"a", "", long}, api.ErrForm},
		{[]string{"a", long, ""}, api.ErrLong},
		{[]string{"", long}, api.ErrForm},
		{[]string{long, ""}, api.ErrLong},
		{[]string{"", ""}, api.ErrForm},
	} {
		if s, err := frame.Row(c.l); s != "" || err != c.want {
			t.Errorf("Row(%.20q) = %.60q, %d, want %d", c.l, s, err, c.want)
		}
	}
}

// F2: nothing, the chapter's example, and what begins with no frame.
func TestScan(t *testing.T) {
	checkScan(t, "", nil, 0)
	s := row(t, "a", "b")
	checkScan(t, s[:len(s)-1], []string{"a"}, 9)
	checkScan(t, s, []string{"a", "b"}, 18)
	for _, tail := range someTails() {
		checkScan(t, tail, nil, 0)
	}
	checkScan(t, framed(framed("inner")), []string{framed("inner")}, 21)
	many := slices.Repeat([]string{"same"}, 3000)
	checkScan(t, row(t, many...), many, 3000*12)
}

// F2: a wrong frame ends it, whatever whole ones are behind.
func TestScanEndsAtAWrongFrame(t *testing.T) {
	for _, wrong := range []string{strings.Repeat("\x00", 8), "\xff\xff\xff\xff\x00\x00\x00\x00", "\x00\x00\x00\x01\x00\x00\x00\x00a", framed(strings.Repeat("x", 8001)), "\x00"} {
		checkScan(t, wrong+framed("a"), nil, 0)
		checkScan(t, framed("a")+wrong+framed("b"), []string{"a"}, 9)
		checkScan(t, framed("a")+framed("bb")+wrong+framed("c")+framed("d"), []string{"a", "bb"}, 19)
	}
}

// F3: a row with bytes behind it that are no frame.
func TestScanOfRow(t *testing.T) {
	payloads := somePayloads()
	for _, l := range [][]string{nil, {"a"}, {"a", "b"}, {"\xff", "\xff", "\xff"}, payloads, payloads[len(payloads)-1:]} {
		s := row(t, l...)
		for _, tail := range someTails() {
			checkScan(t, s+tail, l, len(s))
		}
	}
}

// F3: a row that is cut at every place.
func TestScanOfCutRow(t *testing.T) {
	for _, l := range [][]string{
		{"a"}, {"a", "b"}, {"a", "bb", "ccc", "dddd"}, {"\x80", "\x00", "\xff\xff", strings.Repeat("\x00", 40)},
		{framed("inner"), framed("in")[:8], "x"}, {allBytes(), "a", strings.Repeat("y", 1000), "z"}, {strings.Repeat("\xfe", 8000), "end"},
	} {
		s := row(t, l...)
		whole, wholeBytes := 0, 0
		for cut := 0; cut <= len(s); cut++ {
			if whole < len(l) && cut == wholeBytes+headBytes+len(l[whole]) {
				whole, wholeBytes = whole+1, cut
			}
			checkScan(t, s[:cut], l[:whole], wholeBytes)
		}
		if whole != len(l) {
			t.Errorf("%d of %d payloads", whole, len(l))
		}
	}
}

// F2: of a frame any bits of which are turned nothing is told, nor of those behind it.
func TestScanOfTurnedBits(t *testing.T) {
	front, turned := row(t, "ahead", "\x80\xff"), framed("some\x00 payload\xff")
	for _, behind := range []string{"", framed("behind") + framed(strings.Repeat("z", 300))} {
		for first := range 8 * len(turned) {
			for width := 1; width <= 32 && first+width <= 8*len(turned); width++ {
				for _, all := range []bool{false, true} {
					b := []byte(turned)
					for i := first; i < first+width; i++ {
						if all || i == first || i == first+width-1 {
							b[i/8] ^= 1 << (i % 8)
						}
					}
					checkTake(t, string(b)+behind)
					checkScan(t, front+string(b)+behind, []string{"ahead", "\x80\xff"}, len(front))
				}
			}
		}
	}
}

// TH4 for this layer: all rows of some bytes are read to what F1 and F2 say.
func TestRowsOfBytes(t *testing.T) {
	parts := []string{"\x00", "\x01", "\x1f", "\x40", "\x41", "\xff", "\x00\x00\x00\x01", "\x00\x00\x00\x00", framed("a"), framed("a")[:8], framed("bc")[1:]}
	var grow func(s string, left int)
	grow = func(s string, left int) {
		checkTake(t, s)
		want, bytes := scan(s)
		checkScan(t, s, want, bytes)
		if left > 0 {
			for _, part := range parts {
				grow(s+part, left-1)
			}
		}
	}
	grow("", 5)
}

// P3: a list is not written into, and what lies behind its length is not read; an answered list is new.
func TestListsAreApart(t *testing.T) {
	l := []string{"a", "bb", "", strings.Repeat("x", 8001)}
	want := slices.Clone(l)
	s, err := frame.Row(l[:2])
	if s != framed("a")+framed("bb") || err != api.OK || !slices.Equal(l, want) {
		t.Errorf("Row = %q, %d, and the list %.20q", s, err, l)
	}
	l[0] = "other"
	first, _ := frame.Scan(s)
	first[0] = "changed"
	_ = append(first[:1], "changed")
	checkScan(t, s, []string{"a", "bb"}, len(s))
}

// P4: an answer does not hang on calls ahead of it.
func TestNothingIsKept(t *testing.T) {
	s := row(t, "a", "bb")
	frame.Put(strings.Repeat("\xff", 8000))
	frame.Take("\xff\xff\xff\xff\xff\xff\xff\xff")
	frame.Row([]string{"x", ""})
	frame.Scan(framed("y") + "z")
	if again := row(t, "a", "bb"); again != s {
		t.Errorf("%q, then %q", s, again)
	}
	checkScan(t, s, []string{"a", "bb"}, len(s))
}

func FuzzScan(f *testing.F) {
	for _, tail := range someTails() {
		f.Add("a", "bb", tail, 5)
	}
	f.Fuzz(func(t *testing.T, a, b, tail string, cut int) {
		checkTake(t, tail)
		for _, s := range []string{tail, framed(a) + framed(b) + tail} {
			want, bytes := scan(s)
			checkScan(t, s, want, bytes)
			if cut >= 0 && cut <= len(s) {
				want, bytes = scan(s[:cut])
				checkScan(t, s[:cut], want, bytes)
			}
		}
	})
}
