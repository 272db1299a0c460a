package crc_test

import (
	"hash/crc32"
	"math/rand"
	"strings"
	"testing"

	"bucketline/crc"
)

// bitByBit follows the chapter's words, one bit at a time, without a table.
func bitByBit(sum uint32, s string) uint32 {
	r := ^sum
	for i := 0; i < len(s); i++ {
		r ^= uint32(s[i])
		for range 8 {
			dropped := r % 2
			r /= 2
			if dropped == 1 {
				r ^= 0xEDB88320
			}
		}
	}
	return ^r
}

var someSums = []uint32{0, 1, 7, 0x80, 0x8000_0000, 0x7fff_ffff, 0xffff_fffe, 0xffff_ffff, 0xEDB88320, 0xCBF43926, 0x1234_5678}

func someTexts() []string {
	texts := []string{
		"", "a", "abc", "123456789", "The quick brown fox jumps over the lazy dog",
		"\x00", "\x01", "\x0f", "\x10", "\x7f", "\x80", "\xff", "\x00\x00\x00\x00", "\xff\xff\xff\xff", "\x80\x81\xfe\xff",
		"grün, žluť, 水, \U0001f4a7", "\xc3\x28\xa0\xa1", "a\x00b\n\"\\",
		strings.Repeat("\x00", 32), strings.Repeat("\xff", 32), strings.Repeat("ab\xfe", 5000),
	}
	var all strings.Builder
	for b := range 256 {
		all.WriteByte(byte(b))
	}
	return append(texts, all.String())
}

func randomText(source *rand.Rand, length int) string {
	row := make([]byte, length)
	source.Read(row)
	return string(row)
}

func TestSumOfExamples(t *testing.T) {
	rows := []struct {
		s    string
		want uint32
	}{
		{"123456789", 0xCBF43926},
		{"", 0},
		{"a", 0xE8B7BE43},
		{"abc", 0x352441C2},
		{"The quick brown fox jumps over the lazy dog", 0x414FA339},
		{"\x00", 0xD202EF8D},
		{"\xff", 0xFF000000},
		{"\xff\xff\xff\xff", 0xFFFFFFFF},
		{"\x00\x00\x00\x00", 0x2144DF1C},
		{strings.Repeat("\x00", 32), 0x190A55AD},
		{strings.Repeat("\xff", 32), 0xFF6CAB0B},
	}
	for _, row := range rows {
		if got := crc.Sum(row.s); got != row.want {
			t.Errorf("Sum(%q) = %#x, want %#x", row.s, got, row.want)
		}
	}
}

func TestUpdateOfNothingIsTheSum(t *testing.T) {
	for _, sum := range someSums {
		if got := crc.Update(sum, ""); got != sum {
			t.Errorf("Update(%#x, nothing) = %#x", sum, got)
		}
	}
}

func TestUpdateBitByBit(t *testing.T) {
	for _, sum := range someSums {
		for _, s := range someTexts() {
			if got, want := crc.Update(sum, s), bitByBit(sum, s); got != want {
				t.Errorf("Update(%#x, %q) = %#x, want %#x", sum, s, got, want)
			}
		}
		for b := range 256 {
			s := string([]byte{byte(b)})
			if got, want := crc.Update(sum, s), bitByBit(sum, s); got != want {
				t.Errorf("Update(%#x, %q) = %#x, want %#x", sum, s, got, want)
			}
		}
	}
}

func TestUpdateEveryTwoBytes(t *testing.T) {
	for n := range 1 << 16 {
		s := string([]byte{byte(n), byte(n >> 8)})
		if got, want := crc.Update(uint32(n)*0x9E3779B1, s), bitByBit(uint32(n)*0x9E3779B1, s); got != want {
			t.Fatalf("Update(.., %q) = %#x, want %#x", s, got, want)
		}
	}
}

func TestUpdateAsTheLibraryDoes(t *testing.T) {
	source := rand.New(rand.NewSource(3))
	for length := range 300 {
		sum, s := source.Uint32(), randomText(source, length)
		if got, want := crc.Update(sum, s), crc32.Update(sum, crc32.IEEETable, []byte(s)); got != want {
			t.Errorf("Update(%#x, %q) = %#x, want %#x", sum, s, got, want)
		}
	}
}

func TestSumIsUpdateOfZero(t *testing.T) {
	for _, s := range someTexts() {
		if got, want := crc.Sum(s), crc.Update(0, s); got != want {
			t.Errorf("Sum(%q) = %#x, Update(0, ..) = %#x", s, got, want)
		}
	}
}

func TestUpdateKeepsNothing(t *testing.T) {
	first := crc.Update(7, "abc\xff")
	crc.Update(0xffff_ffff, strings.Repeat("\xff", 100))
	crc.Sum("other")
	if again := crc.Update(7, "abc\xff"); again != first {
		t.Errorf("%#x, then %#x", first, again)
	}
}

func TestUpdateOfTwoParts(t *testing.T) {
	source := rand.New(rand.NewSource(5))
	texts := []string{"", "a", "123456789", "\x80\x00\xff\x7f", "grün, žluť, 水", randomText(source, 200)}
	for _, sum := range someSums {
		for _, s := range texts {
			whole := crc.Update(sum, s)
			for cut := 0; cut <= len(s); cut++ {
				if got := crc.Update(crc.Update(sum, s[:cut]), s[cut:]); got != whole {
					t.Errorf("Update(%#x, %q) cut at %d = %#x, want %#x", sum, s, cut, got, whole)
				}
			}
		}
	}
}

func TestUpdateByteByByte(t *testing.T) {
	for _, s := range someTexts() {
		var sum uint32
		for i := range len(s) {
			sum = crc.Update(sum, s[i:i+1])
		}
		if want := crc.Sum(s); sum != want {
			t.Errorf("%q byte by byte = %#x, want %#x", s, sum, want)
		}
	}
}

// turn flips the bits of pattern in s, its lowest one at bit first of s, the lowest bit of a byte first.
func turn(s string, first int, pattern uint32) string {
	row := []byte(s)
	for i := range 32 {
		if pattern>>i&1 == 1 {
			row[(first+i)/8] ^= 1 << ((first + i) % 8)
		}
	}
	return string(row)
}

// patterns of a width have their lowest and their highest bit, and between them none, all, every other one, or some.
func patterns(width int, source *rand.Rand) []uint32 {
	ends := uint32(1) | 1<<(width-1)
	within := uint32(1<<width - 1)
	return []uint32{ends, within, ends | within&0x5555_5555, ends | within&0xAAAA_AAAA, ends | within&source.Uint32(), ends | within&source.Uint32()}
}

func TestUnlikeInBitsBesideOneAnother(t *testing.T) {
	source := rand.New(rand.NewSource(7))
	texts := []string{"a", "ab", "abc", "abcd", "123456789", strings.Repeat("\x00", 12), strings.Repeat("\xff", 12), randomText(source, 40)}
	for _, s := range texts {
		for _, begun := range []uint32{0, 0xffff_ffff, 0x1234_5678} {
			sum := crc.Update(begun, s)
			for width := 1; width <= 32; width++ {
				for first := 0; first+width <= 8*len(s); first++ {
					for _, pattern := range patterns(width, source) {
						other := turn(s, first, pattern)
						if crc.Update(begun, other) == sum {
							t.Fatalf("Update(%#x, ..) of %q and of %q are both %#x", begun, s, other, sum)
						}
					}
				}
			}
		}
	}
}

func TestUnlikeInUpToSixteenBits(t *testing.T) {
	s := "\x80b\x00d\xff"
	sum := crc.Sum(s)
	for pattern := uint32(1); pattern < 1<<16; pattern++ {
		for first := 0; first+16 <= 8*len(s); first++ {
			if crc.Sum(turn(s, first, pattern)) == sum {
				t.Fatalf("pattern %#x at bit %d of %q is not seen", pattern, first, s)
			}
		}
	}
}

// The check on the check: 33 bits beside one another may be unlike without being seen, if they are the polynomial's own.
func TestThirtyThreeBitsMayBeAlike(t *testing.T) {
	s := "bucketline"
	for first := 0; first+33 <= 8*len(s); first++ {
		other := turn(turn(s, first, 1), first+1, 0xEDB88320)
		if other == s || crc.Sum(other) != crc.Sum(s) {
			t.Errorf("bit %d: %#x, %#x", first, crc.Sum(other), crc.Sum(s))
		}
	}
}

func TestThreeTextsXored(t *testing.T) {
	source := rand.New(rand.NewSource(11))
	check := func(a, b, c string) {
		t.Helper()
		row := make([]byte, len(a))
		for i := range row {
			row[i] = a[i] ^ b[i] ^ c[i]
		}
		if got, want := crc.Sum(string(row)), crc.Sum(a)^crc.Sum(b)^crc.Sum(c); got != want {
			t.Errorf("Sum of %q, %q, %q xored = %#x, want %#x", a, b, c, got, want)
		}
	}
	check("", "", "")
	check("a", "b", "c")
	check("a", "a", "z")
	check("\x80\xff\x00", "\x00\x00\x00", "\xff\xff\xff")
	check("123456789", "987654321", "bucketlin")
	for length := range 200 {
		check(randomText(source, length), randomText(source, length), randomText(source, length))
	}
}

func FuzzUpdate(f *testing.F) {
	for _, s := range someTexts() {
		f.Add(uint32(len(s)), s, len(s)/2)
	}
	f.Fuzz(func(t *testing.T, sum uint32, s string, cut int) {
		want := bitByBit(sum, s)
		if got := crc.Update(sum, s); got != want {
			t.Fatalf("Update(%#x, %q) = %#x, want %#x", sum, s, got, want)
		}
		if cut < 0 || cut > len(s) {
			return
		}
		if got := crc.Update(crc.Update(sum, s[:cut]), s[cut:]); got != want {
			t.Fatalf("Update(%#x, %q) cut at %d = %#x, want %#x", sum, s, cut, got, want)
		}
	})
}
