package log_test

import (
	"fmt"
	"math"
	"slices"
	"strings"
	"testing"

	"bucketline/api"
	"bucketline/disk"
	"bucketline/log"
	"bucketline/manifest"
	"bucketline/segment"
)

// opened is a log, and one that follows the words, on disks that are alike.
func opened(t testing.TB, d *disk.Disk) (*log.Log, *ref) {
	t.Helper()
	l := open(t, d)
	r, err := refOpen(d.Clone())
	if err != api.OK {
		t.Fatalf("by the words, Open of %.300s: %d", tell(d), err)
	}
	return l, r
}

// sameAs asks that a call made of a log and its disk what the words make of theirs.
func sameAs(t testing.TB, what string, d *disk.Disk, l *log.Log, r *ref, err, wantErr api.Errno) {
	t.Helper()
	checkDisk(t, what, d, tell(r.d), err, wantErr)
	checkLog(t, what, l, r.all(), r.numbers())
}

// checkFiles asks that a disk has no segment that is not named, and no Temp.
func checkFiles(t testing.TB, what string, d *disk.Disk, segs []int) {
	t.Helper()
	var there []int
	for _, name := range d.List() {
		if n := segment.Number(name); n > 0 {
			there = append(there, n)
		}
		if name == segment.Temp {
			t.Fatalf("%s: there is a Temp: %.300s", what, tell(d))
		}
	}
	m, err := manifest.Load(d)
	slices.Sort(there)
	if !slices.Equal(there, segs) || !slices.Equal(m.Segs, segs) || err != api.OK {
		t.Fatalf("%s: files %d, named %d, %d, want %d", what, there, m.Segs, err, segs)
	}
}

// L3: what is where behind Append, to the byte: eight entries a segment, and a manifest that names all.
func TestAppendedBytes(t *testing.T) {
	e := many(1, 5, 17)
	d, l := holding(t, e)
	want := laid(t, "manifest", manifestOf(4, 1, 2, 3), "seg-1", bytesOf(1, e[:8]...), "seg-2", bytesOf(9, e[8:16]...), "seg-3", bytesOf(17, e[16:]...))
	checkDisk(t, "Append", d, tell(want), l.Append(nil), api.OK)
	d, l = holding(t, e[:8])
	checkDisk(t, "Append of 8", d, tell(laid(t, "manifest", manifestOf(2, 1), "seg-1", bytesOf(1, e[:8]...))), l.Append(nil), api.OK)
	d, l = holding(t, nil)
	checkDisk(t, "Append of none", d, "", l.Append(nil), api.OK)
	checkLog(t, "Append of none", l, nil, nil)
}

// beginnings are logs whose last segment has 0 (where nothing was added since it was begun), 7 and 8 entries, and others, and none.
func beginnings(t testing.TB) map[string]*disk.Disk {
	out := map[string]*disk.Disk{
		"no entry in a segment":         laid(t, "manifest", manifestOf(2, 1), "seg-1", headOf(1)),
		"no entry in a third segment":   laid(t, "manifest", manifestOf(9, 2, 3, 7), "seg-2", bytesOf(1, many(1, 1, 8)...), "seg-3", bytesOf(9, many(9, 1, 8)...), "seg-7", headOf(17)),
		"two segments without an entry": laid(t, "manifest", manifestOf(3, 1, 2), "seg-1", headOf(1), "seg-2", headOf(1)),
		"segments that are not full":    laid(t, "manifest", manifestOf(7, 1, 4), "seg-1", bytesOf(1, many(1, 1, 3)...), "seg-4", bytesOf(4, many(4, 1, 2)...)),
	}
	for _, count := range []int{0, 1, 7, 8, 9, 15, 16, 17} {
		d, _ := holding(t, many(1, 1, count))
		out[fmt.Sprint(count, " entries")] = d
	}
	return out
}

// L3: 1, 8, 9, 17, and up to 241 entries, at once and one by one, behind each beginning.
func TestAppend(t *testing.T) {
	for begun, d := range beginnings(t) {
		for _, count := range []int{0, 1, 2, 7, 8, 9, 16, 17, 40} {
			once, steps := d.Clone(), d.Clone()
			l, r := opened(t, once)
			more := many(l.Last()+1, 3, count)
			what := fmt.Sprintf("Append of %d behind %s", count, begun)
			sameAs(t, what, once, l, r, l.Append(more), r.Append(more))
			checkOpened(t, what, once, r.all(), r.numbers())
			l, r = opened(t, steps)
			for i := range more {
				sameAs(t, what+", one by one", steps, l, r, l.Append(more[i:i+1]), r.Append(more[i:i+1]))
			}
			checkDisk(t, what+", one by one", steps, tell(once), api.OK, api.OK)
		}
	}
}

// L3: 30 segments of 8 take 240 entries; of what is more nothing is added, and what was added ahead of it stays.
func TestAppendOfMany(t *testing.T) {
	for _, begun := range []int{0, 1, 7, 8, 9, 100, 239, 240} {
		for _, upTo := range []int{240, 241, 248, 249, 400} {
			e := append(many(1, 1, begun), many(begun+1, 2, upTo-begun)...)
			d, l := holding(t, e[:begun])
			want := api.OK
			if upTo > 240 {
				want = api.ErrLong
			}
			what := fmt.Sprintf("Append up to %d behind %d", upTo, begun)
			if err := l.Append(e[begun:]); err != want {
				t.Fatalf("%s: %d, want %d", what, err, want)
			}
			checkLog(t, what, l, e[:240], segsOf(240))
			checkOpened(t, what, d, e[:240], segsOf(240))
			before := tell(d)
			checkDisk(t, what+", of one more", d, before, l.Append(many(241, 2, 1)), api.ErrLong)
			checkDisk(t, what+", of one that is not next", d, before, l.Append(many(242, 2, 1)), api.ErrGap)
			checkDisk(t, what+", of none", d, before, l.Append(nil), api.OK)
		}
	}
	d, l := holding(t, nil)
	for i := range 241 {
		want := api.OK
		if i == 240 {
			want = api.ErrLong
		}
		if err := l.Append(many(i+1, 1, 1)); err != want {
			t.Fatalf("Append of %d: %d, want %d", i+1, err, want)
		}
	}
	checkLog(t, "one by one", l, many(1, 1, 240), segsOf(240))
	checkOpened(t, "one by one", d, many(1, 1, 240), segsOf(240))
}

// strays do not go on from a place and an epoch.
func strays(last, epoch int) map[string][]api.Entry {
	noKind := many(last+1, epoch, 2)
	noKind[1].B.Events[0].Kind = ""
	noStream := many(last+1, epoch, 9)
	noStream[8].B.Stream = "a b"
	return map[string][]api.Entry{
		"a place left out":              many(last+2, epoch, 1),
		"a place that is there":         many(last, epoch, 1),
		"a place far behind":            many(1<<38, epoch, 1),
		"a place of 0":                  many(0, epoch, 1),
		"a place below 0":               many(-1, epoch, 2),
		"an epoch below":                many(last+1, epoch-1, 1),
		"an epoch of 0":                 many(last+1, 0, 1),
		"an epoch above 2^38":           many(last+1, 1<<38+1, 1),
		"an epoch below 0":              many(last+1, math.MinInt, 1),
		"a second place left out":       append(many(last+1, epoch, 1), plain(last+3, epoch)),
		"a second place the same":       append(many(last+1, epoch, 1), plain(last+1, epoch)),
		"an epoch that falls":           append(many(last+1, epoch+1, 1), plain(last+2, epoch)),
		"a ninth epoch that falls":      append(many(last+1, epoch+1, 8), plain(last+9, epoch)),
		"an entry that is not right":    {{Pos: last + 1, Epoch: epoch}},
		"an event that is not right":    noKind,
		"a ninth one that is not right": noStream,
	}
}

// L3: entries that do not go on change nothing, wherever the first of them is that does not.
func TestAppendOfStrays(t *testing.T) {
	for begun, d := range beginnings(t) {
		l := open(t, d)
		before, was, segs := tell(d), l.Range(1, 99), l.Segs()
		for what, e := range strays(l.Last(), max(l.Epoch(), 1)) {
			what = what + " behind " + begun
			checkDisk(t, what, d, before, l.Append(e), api.ErrGap)
			checkLog(t, what, l, was, segs)
		}
	}
}

// L3: an epoch may rise by any number, within a segment, and from one to the next.
func TestAppendOfEpochs(t *testing.T) {
	e := row(1, 1, 2, 3, 5, 5, 6, 7, 8, 300, 300, 1<<20, 1<<38-1, 1<<38, 1<<38, 1<<38, 1<<38, 1<<38)
	for split := range len(e) + 1 {
		d, l := holding(t, e[:split])
		if err := l.Append(e[split:]); err != api.OK {
			t.Errorf("Append: %d", err)
		}
		checkLog(t, "epochs", l, e, []int{1, 2, 3})
		checkOpened(t, "epochs", d, e, []int{1, 2, 3})
	}
}

// P3: what is handed in is not changed, and a change of it is not seen; neither is what lies behind its length.
func TestAppendKeepsNothing(t *testing.T) {
	e := many(1, 2, 20)
	handed := many(1, 2, 20)
	d, l := holding(t, nil)
	if err := l.Append(handed[:18]); err != api.OK || !sameRow(handed, e) {
		t.Fatalf("Append: %d,%s", err, brief(handed))
	}
	spoil(handed)
	checkLog(t, "Append of what changes then", l, e[:18], []int{1, 2, 3})
	checkOpened(t, "Append of what changes then", d, e[:18], []int{1, 2, 3})
	told := l.Range(1, 99)
	l.Truncate(0)
	if err := l.Append(told); err != api.OK || !sameRow(told, e[:18]) {
		t.Fatalf("Append of what was told: %d,%s", err, brief(told))
	}
	spoil(told)
	checkLog(t, "Append of what was told", l, e[:18], []int{4, 5, 6})
}

// checkRefused asks what a disk that refused an Append leaves: what was added before stays, and the log goes on as Open finds it.
func checkRefused(t testing.TB, what string, d *disk.Disk, l *log.Log, r *ref, more []api.Entry) {
	t.Helper()
	err, wantErr := l.Append(more), r.Append(more)
	sameAs(t, what, d, l, r, err, wantErr)
	if wantErr != api.OK && sameRow(r.all(), more) {
		t.Fatalf("%s: %d, but all were added", what, wantErr)
	}
	checkFiles(t, what, d, l.Segs())
	checkOpened(t, what, d, r.all(), r.numbers())
	// The same again is refused again, as what is left of it.
	left := more[l.Last()-(more[0].Pos-1):]
	sameAs(t, what+", again", d, l, r, l.Append(left), r.Append(left))
	checkOpened(t, what+", again", d, r.all(), r.numbers())
}

// L3: a disk that is full at each byte.
func TestAppendWithoutRoom(t *testing.T) {
	t.Parallel()
	for begun, d := range beginnings(t) {
		for _, count := range []int{1, 2, 9, 17} {
			whole := d.Clone()
			l := open(t, whole)
			more := many(l.Last()+1, 3, count)
			l.Append(more)
			// A manifest has a Temp beside it.
			for room := d.Used(); room <= whole.Used()+40; room++ {
				small := resized(t, d, room)
				l, r := opened(t, small)
				checkRefused(t, fmt.Sprintf("Append of %d behind %s with %d bytes more", count, begun, room-d.Used()), small, l, r, more)
			}
		}
	}
}

// resized is a disk with the files of another, and a room of its own.
func resized(t testing.TB, d *disk.Disk, room int) *disk.Disk {
	t.Helper()
	other := made(t, max(room, 1))
	for _, name := range d.List() {
		s, _ := d.Read(name)
		synced(t, other, name, s)
	}
	return other
}

// L3: a disk that is full at each file of it.
func TestAppendWithoutFiles(t *testing.T) {
	for begun, d := range beginnings(t) {
		for files := len(d.List()); files <= disk.MaxFiles; files++ {
			for _, count := range []int{1, 8, 9, 17} {
				full := d.Clone()
				crowd(t, full, files)
				l, r := opened(t, full)
				more := many(l.Last()+1, 3, count)
				checkRefused(t, fmt.Sprintf("Append of %d behind %s with %d files", count, begun, files), full, l, r, more)
			}
		}
	}
}

// L3: what a disk refused it takes where there is room again.
func TestAppendBehindARefusal(t *testing.T) {
	d := made(t, 1000)
	store(t, d, "ballast", strings.Repeat("x", 600))
	l := open(t, d)
	if err := l.Append(many(1, 1, 20)); err != api.ErrFull || l.Last() != 8 {
		t.Fatalf("Append: %d, Last %d", err, l.Last())
	}
	d.Delete("ballast")
	if err := l.Append(many(9, 1, 12)); err != api.OK {
		t.Fatalf("Append with room: %d", err)
	}
	checkLog(t, "room again", l, many(1, 1, 20), l.Segs())
	checkOpened(t, "room again", d, many(1, 1, 20), l.Segs())
	checkFiles(t, "room again", d, l.Segs())
}

// L3: numbers of segments end at 2^30: a manifest has none above it.
func TestAppendAtTheLastNumber(t *testing.T) {
	d := laid(t, "manifest", manifestOf(1<<30-1, 5), "seg-5", bytesOf(1, many(1, 1, 8)...))
	l, r := opened(t, d)
	sameAs(t, "the last number", d, l, r, l.Append(many(9, 1, 17)), r.Append(many(9, 1, 17)))
	checkLog(t, "the last number", l, many(1, 1, 16), []int{5, 1<<30 - 1})
	before := tell(d)
	checkDisk(t, "no number left", d, before, l.Append(many(17, 1, 1)), api.ErrArg)
	checkFiles(t, "no number left", d, []int{5, 1<<30 - 1})
}

// P1, L3: a segment that another hand made too long is full.
func TestAppendBehindALongSegment(t *testing.T) {
	for _, count := range []int{8, 9, 10, 100} {
		e := many(1, 1, count)
		d := laid(t, "manifest", manifestOf(2, 1), "seg-1", bytesOf(1, e...))
		l, r := opened(t, d)
		checkLog(t, "a long segment", l, e, []int{1})
		more := many(count+1, 1, 9)
		sameAs(t, "Append behind a long segment", d, l, r, l.Append(more), r.Append(more))
		checkOpened(t, "Append behind a long segment", d, append(e, more...), []int{1, 2, 3})
	}
}

// P1: a long list comes to an answer.
func TestAppendOfALongList(t *testing.T) {
	_, l := holding(t, nil)
	e := many(1, 1, 1<<15)
	if err := l.Append(e); err != api.ErrLong || l.Last() != 240 {
		t.Errorf("Append: %d, Last %d", err, l.Last())
	}
	if err := l.Append(e[1:]); err != api.ErrGap {
		t.Errorf("Append again: %d", err)
	}
}
