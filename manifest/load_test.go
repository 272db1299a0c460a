package manifest_test

import (
	"fmt"
	"slices"
	"strings"
	"testing"

	"bucketline/api"
	"bucketline/disk"
	"bucketline/manifest"
	"bucketline/segment"
)

// checkLoad asks Load, and that it changes nothing.
func checkLoad(t testing.TB, what string, d *disk.Disk, want manifest.Manifest, wantErr api.Errno) {
	t.Helper()
	before := tell(d)
	got, err := manifest.Load(d)
	if got.Next != want.Next || !slices.Equal(got.Segs, want.Segs) || err != wantErr {
		t.Errorf("%s: Load = %v, %d, want %v, %d", what, got, err, want, wantErr)
	}
	if tell(d) != before {
		t.Errorf("%s: Load made %.300s of %.300s", what, tell(d), before)
	}
}

// wrongFiles are bytes that are those of no right manifest.
func wrongFiles() []string {
	right, other := bytesOf(of(300, 1, 2, 299)), bytesOf(of(1))
	out := []string{
		"x", "\x00", "nonsense", strings.Repeat("\x00", 100), strings.Repeat("nonsense", 1000), right[:8], right[:len(right)-1],
		right + "x", right + "\x00", right + right, right + other, "x" + right, other + right, right + framed("x"), right + framed(""), framed("") + right, framed(""),
		framed(right), framed(strings.Repeat("\x01", 8001)),
		// Too few numbers, a count that does not fit, and too many numbers.
		framed("\x05"), framed("\x00"), framed("\x05\x01"), framed("\x05\x02\x01"), framed("\x05\x03\x01\x02"), framed("\x05\x00\x01"), framed("\x05\x01\x01\x02"), framed("\x05\x02\x01\x02\x03"), framed("\x05\x00\x00"),
		framed("\x05\x1e\x01"), framed("\x05\x1f\x01"), framed(row(99, 30) + row(upTo(29)...)), framed(row(99, 30) + row(upTo(31)...)), framed(row(99, 29) + row(upTo(30)...)),
		framed(row(5, 1<<31)), framed(row(5, 1<<38, 1)), framed(row(5, 1<<40, 1)), framed(row(5, 1<<40+1, 1)), framed(row(5, 1<<62, 1)),
		// Numbers that are cut, or have more groups than are needed, or are no numbers.
		framed("\x80"), framed("\x05\x80"), framed("\x05\x01\x80"), framed("\x05\x01\x81\x00"), framed("\x85\x00\x00"), framed("\x05\x80\x00"), framed("\x05\x81\x00\x01"),
		framed("\x05\x01\x01\x80"), framed("\x05\x00\x80"), framed("\xff\xff\xff\xff\xff\xff\x01\x00"), framed("\x05\x01\xff\xff\xff\xff\xff\xff\x01"), framed(strings.Repeat("\x80", 8000)), framed(strings.Repeat("\x01", 8000)),
		// What other files have.
		framed("s\x05"), "s\x05", markOf(5), markOf(5, 6), "\x05\x00",
	}
	for _, m := range wrongOnes() {
		if s := bytesOf(m); len(s) <= 8008 {
			out = append(out, s)
		}
	}
	return out
}

// A1: without the file, whatever others there are, it is the empty one.
func TestLoadOfNone(t *testing.T) {
	d := made(t, plenty)
	checkLoad(t, "an empty disk", d, of(1), api.OK)
	for _, name := range []string{"Manifest", "manifest.", "manifes", segment.Temp, "epoch", "seg-1"} {
		store(t, d, name, bytesOf(of(9, 1)))
		checkLoad(t, "other files", d, of(1), api.OK)
	}
}

// A1: whole ones, from each edge.
func TestLoad(t *testing.T) {
	for _, m := range rightOnes() {
		for _, isSynced := range []bool{false, true} {
			d := made(t, plenty)
			store(t, d, "manifest", bytesOf(m))
			store(t, d, segment.Temp, bytesOf(of(7, 6)))
			if isSynced {
				d.Sync("manifest")
			}
			checkLoad(t, "bytes", d, m, api.OK)
		}
	}
	checkLoad(t, "bytes that are written out", holding(t, "manifest", framed("\xac\x02\x03\x01\x02\xab\x02")), of(300, 1, 2, 299), api.OK)
}

// A1: what is there and is not right is ErrForm, and nothing is told beside it.
func TestLoadOfWrongFiles(t *testing.T) {
	for _, s := range append(wrongFiles(), "") {
		what := fmt.Sprintf("%.60q", s)
		checkLoad(t, what, holding(t, "manifest", s), manifest.Manifest{}, api.ErrForm)
		if _, err := refRead(s); err != api.ErrForm {
			t.Errorf("%s is right by the words", what)
		}
	}
}

// A1: one byte fewer, at each place, one more, and each byte turned.
func TestLoadOfChangedBytes(t *testing.T) {
	for _, m := range []manifest.Manifest{of(1), of(300, 1, 2, 299), of(31, upTo(30)...), of(1 << 30)} {
		s := bytesOf(m)
		for place := range len(s) {
			checkLoad(t, "a cut", holding(t, "manifest", s[:place]), manifest.Manifest{}, api.ErrForm)
			checkLoad(t, "a byte less", holding(t, "manifest", s[:place]+s[place+1:]), manifest.Manifest{}, api.ErrForm)
			checkLoad(t, "a byte more", holding(t, "manifest", s[:place]+"\x40"+s[place:]), manifest.Manifest{}, api.ErrForm)
			for turn := 1; turn < 256; turn++ {
				turned := s[:place] + string([]byte{s[place] ^ byte(turn)}) + s[place+1:]
				checkLoad(t, "a turned byte", holding(t, "manifest", turned), manifest.Manifest{}, api.ErrForm)
			}
		}
		for more := range 256 {
			checkLoad(t, "a byte behind", holding(t, "manifest", s+string([]byte{byte(more)})), manifest.Manifest{}, api.ErrForm)
		}
	}
}

// A1: all payloads of up to four chosen bytes, against the words.
func TestLoadOfShortPayloads(t *testing.T) {
	bytes := []byte{0, 1, 2, 3, 4, 30, 31, 127, 128, 129, 255}
	var check func(payload string)
	check = func(payload string) {
		s := framed(payload)
		want, err := refRead(s)
		checkLoad(t, fmt.Sprintf("% x", payload), holding(t, "manifest", s), want, err)
		for _, b := range bytes {
			if len(payload) < 4 {
				check(payload + string([]byte{b}))
			}
		}
	}
	check("")
}

// P3, P4: each answer has a list of its own, and hangs on the disk alone.
func TestLoadedListsAreNew(t *testing.T) {
	d := holding(t, "manifest", bytesOf(of(9, 1, 4, 8)))
	first, _ := manifest.Load(d)
	second, _ := manifest.Load(d)
	clear(first.Segs)
	first.Segs = append(first.Segs, 9)
	if !slices.Equal(second.Segs, []int{1, 4, 8}) {
		t.Errorf("%d", second.Segs)
	}
	checkLoad(t, "an answer was changed", d, of(9, 1, 4, 8), api.OK)
	if err := manifest.Save(d, of(9, 2)); err != api.OK || !slices.Equal(second.Segs, []int{1, 4, 8}) {
		t.Errorf("Save: %d; %d", err, second.Segs)
	}
}

// P1: long files come to an answer.
func TestLoadOfLongFiles(t *testing.T) {
	for _, part := range []string{"\x00", "\xff", "\x01", framed("\x01\x00"), framed("x"), markOf(1)} {
		s := strings.Repeat(part, plenty/len(part)/2)
		checkLoad(t, "a long file", holding(t, "manifest", s), manifest.Manifest{}, api.ErrForm)
	}
}

// FuzzLoad: A1: bytes, and bytes that are framed.
func FuzzLoad(f *testing.F) {
	f.Add(bytesOf(of(300, 1, 2, 299)), "\x02\x01\x01")
	f.Add("", row(1<<30, 2, 1, 1<<30-1))
	f.Add("x", row(99, 30)+row(upTo(30)...))
	f.Fuzz(func(t *testing.T, s, payload string) {
		if len(s)+len(payload) > 10000 {
			return
		}
		for _, bytes := range []string{s, framed(payload), framed(payload) + s} {
			d := holding(t, "manifest", bytes)
			want, err := refLoad(d)
			checkLoad(t, "bytes", d, want, err)
			if err == api.OK && manifest.Save(d, want) == api.OK {
				checkDisk(t, "Save of what is there", d, whole("manifest", bytes), api.OK, api.OK)
			}
		}
	})
}
