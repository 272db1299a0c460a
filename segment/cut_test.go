package segment_test

import (
	"fmt"
	"math"
	"slices"
	"strings"
	"testing"

	"bucketline/api"
	"bucketline/disk"
	"bucketline/segment"
)

// tails are bytes behind a segment that ends at place 7 with epoch 4: none, and some that are torn.
func tails() []string {
	return []string{"", "x", "\x00", strings.Repeat("\xff", 50), framed("x"), framed("e"), rowBytes(plain(8, 4))[:12], rowBytes(plain(9, 4)), rowBytes(plain(8, 3)), rowBytes(plain(7, 4)), framed("x") + rowBytes(plain(8, 4))}
}

// S3: at each place, ahead of all entries and behind them, of a segment that is whole and of one that is torn.
func TestCut(t *testing.T) {
	l := row(5, 1, 1, 4)
	for _, tail := range tails() {
		for _, last := range []int{math.MinInt, math.MinInt + 1, -1 << 38, -1, 0, 1, 3, 4, 5, 6, 7, 8, 9, 1 << 38, math.MaxInt - 1, math.MaxInt} {
			what := fmt.Sprintf("Cut at %d with %.20q behind", last, tail)
			d := holding(t, "seg-4", bytesOf(5, l...)+tail)
			kept := l[:min(max(last, 4), 7)-4]
			s := bytesOf(5, kept...)
			checkDisk(t, what, d, fmt.Sprintf("seg-4=%q/%d", s, len(s)), segment.Cut(d, 4, last), api.OK)
			checkLoad(t, what, d, 4, segment.Segment{First: 5, Entries: kept}, api.OK)
			checkDisk(t, what+", again", d, tell(d), segment.Cut(d, 4, last), api.OK)
			d.Crash(nil)
			checkLoad(t, what+", behind a crash", d, 4, segment.Segment{First: 5, Entries: kept}, api.OK)
		}
	}
}

// S3: a segment without entries, and the edges of the first places.
func TestCutOfFirsts(t *testing.T) {
	for _, first := range firsts() {
		for _, last := range []int{math.MinInt, 0, first - 1, first, 1 << 38, math.MaxInt} {
			for _, tail := range []string{"", "x"} {
				d := holding(t, "seg-4", bytesOf(first)+tail)
				s := bytesOf(first)
				checkDisk(t, fmt.Sprintf("Cut at %d of none from %d", last, first), d, fmt.Sprintf("seg-4=%q/%d", s, len(s)), segment.Cut(d, 4, last), api.OK)
			}
		}
	}
	edge := holding(t, "seg-4", bytesOf(1<<38-1, row(1<<38-1, 1, 1)...))
	if err := segment.Cut(edge, 4, 1<<38-1); err != api.OK {
		t.Errorf("Cut: %d", err)
	}
	checkLoad(t, "Cut at the edge", edge, 4, segment.Segment{First: 1<<38 - 1, Entries: row(1<<38-1, 1)}, api.OK)
}

// S3: of a segment that is as it must be nothing is done: what was not synced is not, and Temp stays, on a disk without room or files, too.
func TestCutOfNothing(t *testing.T) {
	for count := range 4 {
		l := row(5, 1, 1, 4)[:count]
		for _, last := range []int{4 + count, 5 + count, 8, math.MaxInt} {
			s := bytesOf(5, l...)
			d := made(t, len(s)+4)
			synced(t, d, "seg-4", s[:9])
			store(t, d, "seg-4", s[9:])
			checkDisk(t, "Cut without Temp", d, tell(d), segment.Cut(d, 4, last), api.OK)
			store(t, d, segment.Temp, "temp")
			crowd(t, d, disk.MaxFiles)
			checkDisk(t, "Cut with Temp on a full disk", d, tell(d), segment.Cut(d, 4, last), api.OK)
		}
	}
}

// S3: a file Temp that is there goes, whatever it has, and other files stay as they are.
func TestCutWithTemp(t *testing.T) {
	l := row(5, 1, 1, 4)
	for _, temp := range []string{"", "x", bytesOf(5), bytesOf(5, l[:1]...), bytesOf(9, row(9, 1)...), strings.Repeat("x", 1000)} {
		for _, isSynced := range []bool{false, true} {
			d := holding(t, "seg-4", bytesOf(5, l...)+"torn")
			store(t, d, segment.Temp, temp)
			if isSynced {
				d.Sync(segment.Temp)
			}
			store(t, d, "seg-40", "other")
			want := holding(t, "seg-4", bytesOf(5, l[:1]...))
			store(t, want, "seg-40", "other")
			checkDisk(t, fmt.Sprintf("Cut with Temp %.60q", temp), d, tell(want), segment.Cut(d, 4, 5), api.OK)
		}
	}
}

// S3: without room for Temp the segment is as it was, and there is no Temp; what Temp had is room again.
func TestCutWithoutRoom(t *testing.T) {
	for count := range 3 {
		l := row(5, 1, 1, 4)
		whole, want := bytesOf(5, l...)+"torn", bytesOf(5, l[:count]...)
		for _, temp := range []string{"none", "", "x", want[:9], want} {
			for short := range len(want) + 1 {
				d := made(t, 3+len(whole)+max(len(want)-short, len(temp)))
				store(t, d, "x", "xyz")
				synced(t, d, "seg-4", whole[:11])
				store(t, d, "seg-4", whole[11:])
				before, what := tell(d), fmt.Sprintf("Cut with %d bytes too few, Temp %.20q", short, temp)
				if temp != "none" {
					store(t, d, segment.Temp, temp)
				}
				if max(len(want)-short, len(temp)) < len(want) {
					checkDisk(t, what, d, before, segment.Cut(d, 4, 4+count), api.ErrFull)
					continue
				}
				after := fmt.Sprintf("seg-4=%q/%d x=\"xyz\"/0", want, len(want))
				checkDisk(t, what, d, after, segment.Cut(d, 4, 4+count), api.OK)
			}
		}
	}
}

// S3: without a file left for Temp the segment is as it was; a Temp that is there is one.
func TestCutWithoutFiles(t *testing.T) {
	s := bytesOf(5, row(5, 1, 1)...)
	d := holding(t, "seg-4", s)
	crowd(t, d, disk.MaxFiles)
	checkDisk(t, "Cut without a file left", d, tell(d), segment.Cut(d, 4, 5), api.ErrLong)
	d.Delete("f10")
	before := tell(d)
	store(t, d, segment.Temp, "x")
	kept := bytesOf(5, plain(5, 1))
	want := strings.Replace(before, fmt.Sprintf("%q/%d", s, len(s)), fmt.Sprintf("%q/%d", kept, len(kept)), 1)
	checkDisk(t, "Cut with Temp as the last file", d, want, segment.Cut(d, 4, 5), api.OK)
}

// S3, P2: Load's errors, with nothing changed: Temp stays.
func TestCutOfWrongSegments(t *testing.T) {
	for _, s := range []string{"", "nonsense", bytesOf(0), bytesOf(1<<38 + 1), bytesOf(5)[:8], framed("s"), "x" + bytesOf(5), rowBytes(plain(5, 1))} {
		d := holding(t, "seg-4", s)
		store(t, d, segment.Temp, "x")
		for _, last := range []int{math.MinInt, -1, 0, 5, math.MaxInt} {
			checkDisk(t, fmt.Sprintf("Cut of %.60q", s), d, tell(d), segment.Cut(d, 4, last), api.ErrForm)
			for _, n := range append(noNumbers(), 3) {
				checkDisk(t, fmt.Sprint("Cut of segment ", n), d, tell(d), segment.Cut(d, n, last), api.ErrNone)
			}
		}
	}
}

// S4: what is added behind a cut goes on from where it is, in a later epoch, and no entry that was cut comes back.
func TestAddBehindCut(t *testing.T) {
	l := row(5, 1, 1, 4, 4)
	for count := range len(l) {
		d := holding(t, "seg-4", bytesOf(5, l...))
		if err := segment.Cut(d, 4, 4+count); err != api.OK {
			t.Fatal(err)
		}
		if err := segment.Add(d, 4, row(9, 5)); err != api.ErrGap {
			t.Errorf("Add behind what was cut: %d", err)
		}
		more := row(5+count, 5, 6)
		if err := segment.Add(d, 4, more); err != api.OK {
			t.Errorf("Add: %d", err)
		}
		checkLoad(t, "Add behind Cut", d, 4, segment.Segment{First: 5, Entries: slices.Concat(l[:count], more)}, api.OK)
	}
}

// S4: a crash in each step of the words of Cut leaves the segment as it was, or as it must be, and Cut does the rest.
func TestCrashWithinCut(t *testing.T) {
	l := row(5, 1, 1, 4)
	old, cut := bytesOf(5, l...)+"torn", bytesOf(5, l[:1]...)
	for keep := range len(cut) + 1 {
		d := holding(t, "seg-4", old)
		store(t, d, segment.Temp, cut)
		d.Crash([]int{0, keep})
		checkLoad(t, "a crash", d, 4, segment.Segment{First: 5, Entries: l, Torn: true}, api.OK)
		checkDisk(t, "Cut behind a crash", d, fmt.Sprintf("seg-4=%q/%d", cut, len(cut)), segment.Cut(d, 4, 5), api.OK)
	}
}
