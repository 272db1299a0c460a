package manifest_test

import (
	"fmt"
	"math"
	"strings"
	"testing"

	"bucketline/api"
	"bucketline/disk"
	"bucketline/manifest"
	"bucketline/segment"
)

// checkEpoch asks Epoch, and that it changes nothing.
func checkEpoch(t testing.TB, what string, d *disk.Disk, want int) {
	t.Helper()
	before := tell(d)
	if got := manifest.Epoch(d); got != want {
		t.Errorf("%s: Epoch = %d, want %d, of %.300s", what, got, want, before)
	}
	if tell(d) != before {
		t.Errorf("%s: Epoch made %.300s of %.300s", what, tell(d), before)
	}
}

// lastOf is 0, if there is none.
func lastOf(l []int) int {
	if len(l) == 0 {
		return 0
	}
	return l[len(l)-1]
}

// behind are bytes behind the frames of Mark, of which the last one is of epoch 5: none of them is read.
func behind() map[string]string {
	return map[string]string{
		"a byte":                    "x",
		"bytes of 0":                strings.Repeat("\x00", 30),
		"bytes that are no frame":   strings.Repeat("nonsense", 300),
		"a frame without bytes":     framed(""),
		"a torn frame":              markOf(6)[:8],
		"a torn frame without sum":  markOf(6)[:3],
		"a frame with another sum":  markOf(6)[:8] + "\x07",
		"another sum, and a frame":  markOf(6)[:8] + "\x07" + markOf(8),
		"a letter":                  framed("x\x80"),
		"a letter, and a frame":     framed("x\x80") + markOf(300),
		"two numbers":               framed("\x06\x07"),
		"a number and a byte":       framed(number(300) + "\x80"),
		"two numbers, and a frame":  framed("\x06\x07") + markOf(8),
		"a number that is cut":      framed("\x86"),
		"too many groups":           framed("\x86\x00"),
		"seven groups":              framed("\xff\xff\xff\xff\xff\xff\x01"),
		"a number of 0":             framed("\x00"),
		"a number of 0, and a one":  framed("\x00") + markOf(6),
		"2^38 + 1":                  markOf(1<<38 + 1),
		"2^38 + 1, and a frame":     markOf(1<<38+1, 6),
		"2^40":                      markOf(1 << 40),
		"2^40 + 1":                  markOf(1<<40 + 1),
		"2^63":                      framed(string([]byte{128, 128, 128, 128, 128, 128, 128, 128, 128, 1})),
		"the same number":           markOf(5),
		"the same number, and more": markOf(5, 6, 7),
		"a number below":            markOf(4),
		"a number below, and more":  markOf(1, 6, 7),
		"a manifest":                bytesOf(of(9, 1)),
		"a frame of many bytes":     framed(strings.Repeat("\x06", 8000)),
		"a frame of too many bytes": framed(strings.Repeat("\x06", 8001)),
	}
}

// A2: without the file, or with one without bytes, it is 0.
func TestEpochOfNone(t *testing.T) {
	d := made(t, plenty)
	checkEpoch(t, "an empty disk", d, 0)
	for _, name := range []string{"Epoch", "epoch.", "epoc", segment.Temp, "manifest", "seg-1"} {
		store(t, d, name, markOf(7))
		checkEpoch(t, "other files", d, 0)
	}
	store(t, d, "epoch", "")
	checkEpoch(t, "a file without bytes", d, 0)
}

// A2: the last of the frames.
func TestEpoch(t *testing.T) {
	for _, l := range [][]int{{1}, {2}, {127}, {128}, {300}, {1<<38 - 1}, {1 << 38}, {1, 2}, {1, 300, 301}, {1<<38 - 1, 1 << 38}, upTo(19), upTo(20), upTo(21), upTo(22), upTo(5000)} {
		for _, isSynced := range []bool{false, true} {
			d := made(t, plenty)
			store(t, d, "epoch", markOf(l...))
			if isSynced {
				d.Sync("epoch")
			}
			checkEpoch(t, "frames", d, lastOf(l))
		}
	}
	checkEpoch(t, "bytes that are written out", holding(t, "epoch", framed("\x05")+framed("\xac\x02")), 300)
}

// A2: up to what is no such frame, at the beginning and behind others.
func TestEpochOfWrongFrames(t *testing.T) {
	for what, s := range behind() {
		for _, l := range [][]int{{5}, {1, 5}, {1, 2, 3, 4, 5}} {
			checkEpoch(t, what+" behind frames", holding(t, "epoch", markOf(l...)+s), 5)
		}
		checkEpoch(t, what+" behind the highest", holding(t, "epoch", markOf(1<<38)+s), 1<<38)
		d := holding(t, "epoch", s)
		checkEpoch(t, what+" alone", d, refEpoch(d))
	}
	for what, s := range map[string]string{"a byte": "x", "a torn frame": markOf(6)[:8], "no number": framed("x\x80"), "0": framed("\x00"), "2^38 + 1": markOf(1<<38 + 1), "two numbers": framed("\x06\x07")} {
		checkEpoch(t, what, holding(t, "epoch", s), 0)
		checkEpoch(t, what+" ahead of frames", holding(t, "epoch", s+markOf(1, 2)), 0)
	}
}

// A2: a file that is cut at each place, and one with each byte turned.
func TestEpochOfTornBytes(t *testing.T) {
	l := []int{3, 200, 300, 1 << 20, 1 << 38}
	s := markOf(l...)
	for place := range len(s) {
		want := 0
		for count := range len(l) + 1 {
			if count > 0 && len(markOf(l[:count]...)) <= place {
				want = l[count-1]
			}
		}
		checkEpoch(t, "a cut", holding(t, "epoch", s[:place]), want)
		checkEpoch(t, "a cut, and a byte", holding(t, "epoch", s[:place]+"\xfe"), want)
		for _, turn := range []byte{1, 2, 0x80, 0xff} {
			checkEpoch(t, "a turned byte", holding(t, "epoch", s[:place]+string([]byte{s[place] ^ turn})+s[place+1:]), want)
		}
	}
}

// A2: an epoch that is none is told ahead of all else, and nothing is changed.
func TestRaiseOfNone(t *testing.T) {
	full := made(t, 9)
	store(t, full, "epoch", markOf(7))
	crowd(t, full, disk.MaxFiles)
	torn := holding(t, "epoch", markOf(7)+"x")
	store(t, torn, segment.Temp, "x")
	for _, d := range []*disk.Disk{made(t, plenty), holding(t, "epoch", markOf(7)), holding(t, "epoch", markOf(1<<38)), full, torn} {
		before := tell(d)
		for _, epoch := range []int{0, -1, -7, -1 << 38, math.MinInt, 1<<38 + 1, 1 << 39, 1 << 40, 1<<40 + 1, 1<<40 + 7, math.MaxInt} {
			checkDisk(t, fmt.Sprint("Raise of ", epoch), d, before, manifest.Raise(d, epoch), api.ErrArg)
		}
	}
}

// A2: the first epoch makes the file, which is synced.
func TestRaiseOfTheFirst(t *testing.T) {
	for _, epoch := range []int{1, 2, 3, 127, 128, 300, 1 << 31, 1<<38 - 1, 1 << 38} {
		d := made(t, plenty)
		store(t, d, segment.Temp, "temp")
		checkDisk(t, "Raise", d, whole("epoch", markOf(epoch))+` temp="temp"/0`, manifest.Raise(d, epoch), api.OK)
		checkEpoch(t, "Raise", d, epoch)
		d.Crash(nil)
		checkEpoch(t, "a crash", d, epoch)
		empty := holding(t, "epoch", "")
		checkDisk(t, "Raise with a file without bytes", empty, whole("epoch", markOf(epoch)), manifest.Raise(empty, epoch), api.OK)
	}
}

// A2: one above is put behind the others, one below is ErrEpoch, and the same one syncs the file and does nothing else.
func TestRaise(t *testing.T) {
	for _, l := range [][]int{{5}, {1, 5}, {1, 2, 3, 4, 5}, {300}, {1<<38 - 1}, {1 << 38}, {2, 1 << 38}} {
		s, last := markOf(l...), l[len(l)-1]
		for _, ahead := range []int{0, 4, len(s)} {
			for _, off := range []int{math.MinInt >> 8, -1 << 37, -2, -1, 0, 1, 2, 1 << 37} {
				epoch := last + off
				if epoch < 1 || epoch > 1<<38 {
					continue
				}
				d := made(t, plenty)
				synced(t, d, "epoch", s[:ahead])
				store(t, d, "epoch", s[ahead:])
				store(t, d, segment.Temp, "temp")
				what, want, err := fmt.Sprintf("Raise of %d behind %d", epoch, l), whole("epoch", s), api.OK
				if off < 0 {
					want, err = fmt.Sprintf("epoch=%q/%d", s, ahead), api.ErrEpoch
				} else if off > 0 {
					want = whole("epoch", s+markOf(epoch))
				}
				checkDisk(t, what, d, want+` temp="temp"/0`, manifest.Raise(d, epoch), err)
				checkEpoch(t, what, d, max(epoch, last))
			}
		}
	}
}

// A2: up to 20 frames another one is put behind; with more the file is begun anew, and a Temp that is there goes.
func TestRaiseOfMany(t *testing.T) {
	for _, count := range []int{1, 2, 18, 19, 20, 21, 22, 23, 41, 42, 100, 3000} {
		for _, temp := range []string{"none", "", "temp", markOf(9999)} {
			d := holding(t, "epoch", markOf(upTo(count)...))
			rest := ""
			if temp != "none" {
				store(t, d, segment.Temp, temp)
				rest = fmt.Sprintf(" temp=%q/0", temp)
			}
			what := fmt.Sprintf("Raise behind %d frames, Temp %.20q", count, temp)
			checkDisk(t, what+", of one below", d, tell(d), manifest.Raise(d, max(count-1, 1)), errOfBelow(count))
			checkDisk(t, what+", of the same", d, tell(d), manifest.Raise(d, count), api.OK)
			want := whole("epoch", markOf(5000))
			if count <= 20 {
				want = whole("epoch", markOf(append(upTo(count), 5000)...)) + rest
			}
			checkDisk(t, what, d, want, manifest.Raise(d, 5000), api.OK)
			checkEpoch(t, what, d, 5000)
		}
	}
}

// errOfBelow is told of the epoch below the last of so many: below 1 there is none.
func errOfBelow(last int) api.Errno {
	if last == 1 {
		return api.OK
	}
	return api.ErrEpoch
}

// A2: raised one by one, the file has 21 frames at most.
func TestRaiseOneByOne(t *testing.T) {
	d := made(t, 22*9)
	for i := range 120 {
		if err := manifest.Raise(d, i+1); err != api.OK {
			t.Fatalf("Raise of %d: %d", i+1, err)
		}
		frames := upTo(i + 1)[i/21*21:]
		checkDisk(t, fmt.Sprint("Raise of ", i+1), d, whole("epoch", markOf(frames...)), api.OK, api.OK)
		checkEpoch(t, "Raise", d, i+1)
	}
}

// A2: with other bytes in it the file is begun anew; one below or the same leaves them.
func TestRaiseBehindWrongFrames(t *testing.T) {
	for what, s := range behind() {
		for _, l := range [][]int{{5}, {1, 5}, {1, 2, 3, 4, 5}} {
			for _, temp := range []string{"none", "", "temp", markOf(9999)} {
				d := made(t, plenty)
				synced(t, d, "epoch", markOf(l...))
				store(t, d, "epoch", s)
				if temp != "none" {
					store(t, d, segment.Temp, temp)
				}
				what := fmt.Sprintf("Raise behind %s, Temp %.20q", what, temp)
				before := tell(d)
				checkDisk(t, what+", of one below", d, before, manifest.Raise(d, 4), api.ErrEpoch)
				now := strings.Replace(before, fmt.Sprintf("/%d", len(markOf(l...))), fmt.Sprintf("/%d", len(markOf(l...)+s)), 1)
				checkDisk(t, what+", of the same", d, now, manifest.Raise(d, 5), api.OK)
				checkDisk(t, what, d, whole("epoch", markOf(6)), manifest.Raise(d, 6), api.OK)
				checkEpoch(t, what, d, 6)
			}
		}
		alone := holding(t, "epoch", s)
		if refEpoch(alone) == 0 {
			checkDisk(t, "Raise with nothing but "+what, alone, whole("epoch", markOf(1)), manifest.Raise(alone, 1), api.OK)
		}
	}
}

// A2: a disk that is full just behind the frame takes it; with a byte less the file is as it was, or not there.
func TestRaiseWithoutRoom(t *testing.T) {
	for _, l := range [][]int{nil, {5}, {1, 2, 3, 4, 5}, upTo(20)} {
		for _, epoch := range []int{21, 127, 128, 1 << 38} {
			s, more := markOf(l...), markOf(epoch)
			for short := range len(more) + 1 {
				d := made(t, 3+len(s)+len(more)-short)
				store(t, d, "x", "xyz")
				if l != nil {
					synced(t, d, "epoch", s[:8])
					store(t, d, "epoch", s[8:])
				}
				before, what := tell(d), fmt.Sprintf("Raise of %d behind %d with %d bytes too few", epoch, l, short)
				if short > 0 {
					checkDisk(t, what, d, before, manifest.Raise(d, epoch), api.ErrFull)
					checkEpoch(t, what, d, lastOf(l))
					continue
				}
				checkDisk(t, what, d, whole("epoch", s+more)+` x="xyz"/0`, manifest.Raise(d, epoch), api.OK)
				checkDisk(t, what+", again", d, tell(d), manifest.Raise(d, epoch), api.OK)
			}
		}
	}
}

// A2: without room for Temp the file is as it was, and there is no Temp; what Temp had is room again.
func TestRaiseAnewWithoutRoom(t *testing.T) {
	for _, old := range []string{markOf(upTo(21)...), markOf(1, 21) + "x", markOf(21) + framed("x\x80"), markOf(21, 21)} {
		for _, epoch := range []int{22, 1 << 38} {
			want := markOf(epoch)
			for _, temp := range []string{"none", "", "x", want[:8], want} {
				for short := range len(want) + 1 {
					room := max(len(want)-short, len(temp))
					d := made(t, 3+len(old)+room)
					store(t, d, "x", "xyz")
					synced(t, d, "epoch", old[:9])
					store(t, d, "epoch", old[9:])
					before, what := tell(d), fmt.Sprintf("Raise of %d with %d bytes too few, Temp %.20q", epoch, short, temp)
					if temp != "none" {
						store(t, d, segment.Temp, temp)
					}
					if room < len(want) {
						checkDisk(t, what, d, before, manifest.Raise(d, epoch), api.ErrFull)
						checkEpoch(t, what, d, 21)
						continue
					}
					checkDisk(t, what, d, whole("epoch", want)+` x="xyz"/0`, manifest.Raise(d, epoch), api.OK)
				}
			}
		}
	}
}

// A2: without a file left the first one is ErrLong, and so is one that needs Temp; one that is put behind others needs none. A Temp that is there is a file for what needs one, and for nothing else.
func TestRaiseWithoutFiles(t *testing.T) {
	for _, c := range []struct {
		old           string
		err, withTemp api.Errno
	}{
		{"none", api.ErrLong, api.ErrLong},
		{"", api.OK, api.OK},
		{markOf(5), api.OK, api.OK},
		{markOf(upTo(20)...), api.OK, api.OK},
		{markOf(upTo(21)...), api.ErrLong, api.OK},
		{markOf(5) + "x", api.ErrLong, api.OK},
		{"x", api.ErrLong, api.OK},
	} {
		for _, temp := range []bool{false, true} {
			d, wantErr := made(t, plenty), c.err
			if c.old != "none" {
				synced(t, d, "epoch", c.old)
			}
			if temp {
				store(t, d, segment.Temp, "temp")
				wantErr = c.withTemp
			}
			crowd(t, d, disk.MaxFiles)
			want := d.Clone()
			if err := refRaise(want, 30); err != wantErr {
				t.Errorf("by the words, Raise behind %.60q: %d, want %d", c.old, err, wantErr)
			}
			checkDisk(t, fmt.Sprintf("Raise behind %.60q, Temp: %t", c.old, temp), d, tell(want), manifest.Raise(d, 30), wantErr)
			checkEpoch(t, "no file left", d, refEpoch(want))
		}
	}
}

// A2: the first frame that is not such a one is where the others end, so that a Mark of these is begun anew.
func TestRaiseBehindFramesThatDoNotRise(t *testing.T) {
	for _, l := range [][]int{{1, 1}, {2, 1}, {1, 2, 2}, {1, 3, 2}, {1, 3, 2, 4}, {3, 3, 9}, {0, 1}, {0}, {1 << 38, 1<<38 + 1}, {1<<38 + 1}} {
		d, want := holding(t, "epoch", markOf(l...)), holding(t, "epoch", markOf(l...))
		for _, epoch := range []int{1, 2, 3, 4, 5, 1 << 38} {
			err, wantErr := manifest.Raise(d, epoch), refRaise(want, epoch)
			checkDisk(t, fmt.Sprintf("Raise of %d behind %d", epoch, l), d, tell(want), err, wantErr)
		}
	}
}

// P1: long files come to an answer.
func TestRaiseBehindLongFiles(t *testing.T) {
	for _, part := range []string{"\x00", "\xff", "x", framed("\x01"), framed("x\x80")} {
		d := holding(t, "epoch", strings.Repeat(part, plenty/len(part)/2))
		checkDisk(t, "a long file", d, whole("epoch", markOf(7)), manifest.Raise(d, 7), api.OK)
	}
	var long strings.Builder
	for i := range 40000 {
		long.WriteString(framed(number(i + 1)))
	}
	d := holding(t, "epoch", long.String())
	checkEpoch(t, "many frames", d, 40000)
	checkDisk(t, "many frames", d, whole("epoch", markOf(40001)), manifest.Raise(d, 40001), api.OK)
}
