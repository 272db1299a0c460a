package log_test

import (
	"fmt"
	"math"
	"slices"
	"testing"

	"bucketline/api"
	"bucketline/disk"
	"bucketline/segment"
)

// outside are places below 0, and from the last one on.
func outside(last int) []int {
	return []int{math.MinInt, -1 << 32, -2, -1, last, last + 1, last + 8, 1 << 38, math.MaxInt}
}

// L4: below 0 is ErrArg, and at Last or above it there is nothing to do.
func TestTruncateOfNothing(t *testing.T) {
	for begun, d := range beginnings(t) {
		store(t, d, "other", "x")
		l := open(t, d)
		// Nothing is written, so that no Temp goes either.
		store(t, d, segment.Temp, "temp")
		before, was, segs := tell(d), l.Range(1, 99), l.Segs()
		for _, last := range outside(len(was)) {
			want := api.OK
			if last < 0 {
				want = api.ErrArg
			}
			what := fmt.Sprintf("Truncate(%d) of %s", last, begun)
			checkDisk(t, what, d, before, l.Truncate(last), want)
			checkLog(t, what, l, was, segs)
		}
	}
}

// L4: at 0, and at each place: what is behind it is gone, in memory and on the disk; and an Append goes on from it, of the same epoch or of a later one.
func TestTruncate(t *testing.T) {
	for begun, d := range beginnings(t) {
		for last := range open(t, d.Clone()).Last() {
			for _, epoch := range []int{1, 2, 9} {
				cut := d.Clone()
				l, r := opened(t, cut)
				want := l.Range(1, last)
				what := fmt.Sprintf("Truncate(%d) of %s", last, begun)
				sameAs(t, what, cut, l, r, l.Truncate(last), r.Truncate(last))
				checkLog(t, what, l, want, r.numbers())
				checkOpened(t, what, cut, want, r.numbers())
				checkFiles(t, what, cut, r.numbers())
				checkDisk(t, what+", again", cut, tell(cut), l.Truncate(last), api.OK)
				more := many(last+1, epoch, 11)
				sameAs(t, what+", Append", cut, l, r, l.Append(more), r.Append(more))
				checkOpened(t, what+", Append", cut, append(want, more...), r.numbers())
			}
		}
	}
}

// L4: the first place, the last one and those in the middle of each segment of a log of four, to the byte.
func TestTruncatedBytes(t *testing.T) {
	e := row(1, 1, 1, 2, 2, 2, 2, 2, 2, 3, 3, 3, 3, 3, 3, 3, 3, 4, 4, 4, 5, 5, 5, 5, 5, 6)
	for last := range len(e) {
		d, l := holding(t, e)
		store(t, d, segment.Temp, "temp")
		var segs []int
		want := made(t, plenty)
		for i := 0; i < last; i += 8 {
			segs = append(segs, i/8+1)
			synced(t, want, fmt.Sprint("seg-", i/8+1), bytesOf(i+1, e[i:min(i+8, last)]...))
		}
		synced(t, want, "manifest", manifestOf(5, segs...))
		checkDisk(t, fmt.Sprintf("Truncate(%d)", last), d, tell(want), l.Truncate(last), api.OK)
		checkLog(t, fmt.Sprintf("Truncate(%d)", last), l, e[:last], segs)
	}
}

// L4: an epoch that was cut away may come again, but not one below what is left; the number of a segment does not.
func TestAppendBehindTruncate(t *testing.T) {
	_, l := holding(t, row(1, 1, 1, 2, 2, 7, 7, 7, 7, 8, 8))
	l.Truncate(4)
	for _, c := range []struct {
		e    []api.Entry
		want api.Errno
	}{
		{many(5, 1, 1), api.ErrGap}, {many(11, 8, 1), api.ErrGap}, {many(6, 8, 1), api.ErrGap}, {many(4, 2, 1), api.ErrGap},
		{many(5, 2, 1), api.OK}, {many(6, 3, 3), api.OK}, {many(9, 7, 9), api.OK},
	} {
		if err := l.Append(c.e); err != c.want {
			t.Errorf("Append of%s: %d, want %d", brief(c.e), err, c.want)
		}
	}
	checkLog(t, "Append behind Truncate", l, append(row(1, 1, 1, 2, 2, 2, 3, 3, 3), many(9, 7, 9)...), []int{1, 3, 4})
	l.Truncate(0)
	l.Append(many(1, 1, 9))
	checkLog(t, "Append behind Truncate(0)", l, many(1, 1, 9), []int{5, 6})
}

// L4: up to 30 segments again, behind a Truncate that left some.
func TestAppendOfManyBehindTruncate(t *testing.T) {
	d, l := holding(t, many(1, 1, 240))
	l.Truncate(100)
	if err := l.Append(many(101, 2, 141)); err != api.ErrLong {
		t.Errorf("Append: %d", err)
	}
	want := append(many(1, 1, 100), many(101, 2, 140)...)
	checkLog(t, "Append of many", l, want, l.Segs())
	checkOpened(t, "Append of many", d, want, l.Segs())
	if segs := l.Segs(); len(segs) != 30 || segs[12] != 13 || segs[13] != 31 {
		t.Errorf("Segs = %d", segs)
	}
}

// checkCut asks what a Truncate made, be it refused or not: what the words make, and a log that goes on as Open finds it.
func checkCut(t testing.TB, what string, d *disk.Disk, last int) api.Errno {
	t.Helper()
	l, r := opened(t, d)
	was := l.Range(1, math.MaxInt)
	err := l.Truncate(last)
	sameAs(t, what, d, l, r, err, r.Truncate(last))
	left := l.Range(1, math.MaxInt)
	if len(left) < last || !sameRow(left, was[:len(left)]) || err == api.OK && len(left) != last {
		t.Fatalf("%s: %d, left%s", what, err, brief(left))
	}
	checkFiles(t, what, d, l.Segs())
	checkOpened(t, what, d, left, l.Segs())
	more := many(l.Last()+1, 5, 1)
	sameAs(t, what+", Append", d, l, r, l.Append(more), r.Append(more))
	sameAs(t, what+", again", d, l, r, l.Truncate(last), r.Truncate(last))
	checkOpened(t, what+", again", d, r.all(), r.numbers())
	return err
}

// L4: a disk that has no room, or too little at each byte: with an error the log is as it was, or has lost its last segments alone.
func TestTruncateWithoutRoom(t *testing.T) {
	t.Parallel()
	e := many(1, 1, 25)
	d, _ := holding(t, e)
	for last := range 25 {
		seen := map[api.Errno]bool{}
		for more := range 400 {
			small := resized(t, d, d.Used()+more)
			seen[checkCut(t, fmt.Sprintf("Truncate(%d) with %d bytes", last, more), small, last)] = true
		}
		if !seen[api.OK] || !seen[api.ErrFull] {
			t.Errorf("Truncate(%d): %v", last, seen)
		}
	}
}

// L4: where there is room for the manifest, but not for what is left of the last segment, those behind it are gone, and it is as it was.
func TestTruncateThatIsHalfDone(t *testing.T) {
	e := many(1, 1, 17)
	d, _ := holding(t, e)
	for last := 9; last < 16; last++ {
		small := resized(t, d, d.Used()+len(manifestOf(4, 1, 2)))
		l := open(t, small)
		// The third segment, of one entry, leaves room for one entry of the second.
		want, left := api.ErrFull, 16
		if last == 9 {
			want, left = api.OK, 9
		}
		if err := l.Truncate(last); err != want {
			t.Fatalf("Truncate(%d): %d, want %d", last, err, want)
		}
		checkLog(t, "half done", l, e[:left], []int{1, 2})
		checkOpened(t, "half done", small, e[:left], []int{1, 2})
		more := many(left+1, 1, 1)
		if err := l.Append(more); err != api.OK {
			t.Fatalf("Append behind Truncate(%d): %d", last, err)
		}
		checkOpened(t, "Append behind what is half done", small, append(slices.Clone(e[:left]), more...), l.Segs())
	}
}

// L4: without a file for Temp nothing is cut; with the files of segments that go there is one again.
func TestTruncateWithoutFiles(t *testing.T) {
	d, _ := holding(t, many(1, 1, 25))
	for last := range 25 {
		for files := len(d.List()); files <= disk.MaxFiles; files++ {
			full := d.Clone()
			crowd(t, full, files)
			want := api.OK
			if files == disk.MaxFiles {
				want = api.ErrLong
			}
			if err := checkCut(t, fmt.Sprintf("Truncate(%d) with %d files", last, files), full, last); err != want {
				t.Errorf("Truncate(%d) with %d files: %d, want %d", last, files, err, want)
			}
		}
	}
}

// L4: a segment that begins behind the place goes, whether it has entries or not.
func TestTruncateOfSegmentsWithoutEntries(t *testing.T) {
	e := many(1, 1, 10)
	d := laid(t, "manifest", manifestOf(9, 1, 2, 3, 4, 6), "seg-1", headOf(1), "seg-2", bytesOf(1, e[:5]...), "seg-3", headOf(6), "seg-4", bytesOf(6, e[5:]...), "seg-6", headOf(11))
	for last, segs := range [][]int{{}, {1, 2}, {1, 2}, {1, 2}, {1, 2}, {1, 2}, {1, 2, 3, 4}, {1, 2, 3, 4}, {1, 2, 3, 4}, {1, 2, 3, 4}, {1, 2, 3, 4, 6}} {
		cut := d.Clone()
		l, r := opened(t, cut)
		sameAs(t, "Truncate", cut, l, r, l.Truncate(last), r.Truncate(last))
		checkLog(t, fmt.Sprintf("Truncate(%d)", last), l, e[:last], slices.Clip(segs))
		checkFiles(t, "Truncate", cut, segs)
	}
}
