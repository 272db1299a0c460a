package log_test

import (
	"fmt"
	"math"
	"slices"
	"strings"
	"testing"

	"bucketline/api"
	"bucketline/disk"
	"bucketline/log"
)

const plenty = 1 << 20

func made(t testing.TB, room int) *disk.Disk {
	t.Helper()
	d, err := disk.New(room)
	if d == nil || err != api.OK {
		t.Fatalf("New(%d) = %v, %d", room, d, err)
	}
	return d
}

// tell is all that can be asked of a disk: each file as name=bytes/synced.
func tell(d *disk.Disk) string {
	var parts []string
	for _, name := range d.List() {
		s, err := d.Read(name)
		if err != api.OK {
			return fmt.Sprintf("Read(%q): %d", name, err)
		}
		parts = append(parts, fmt.Sprintf("%s=%q/%d", name, s, d.Synced(name)))
	}
	return strings.Join(parts, " ")
}

// store puts bytes behind those of a file.
func store(t testing.TB, d *disk.Disk, name, s string) {
	t.Helper()
	if err := d.Append(name, s); err != api.OK {
		t.Fatalf("Append(%q, %.60q): %d", name, s, err)
	}
}

func synced(t testing.TB, d *disk.Disk, name, s string) {
	t.Helper()
	store(t, d, name, s)
	if err := d.Sync(name); err != api.OK {
		t.Fatalf("Sync(%q): %d", name, err)
	}
}

// laid is a disk with these files, names and bytes in turn, all synced.
func laid(t testing.TB, files ...string) *disk.Disk {
	t.Helper()
	d := made(t, plenty)
	for file := range slices.Chunk(files, 2) {
		synced(t, d, file[0], file[1])
	}
	return d
}

// crowd puts files without bytes on a disk, up to so many files in all.
func crowd(t testing.TB, d *disk.Disk, files int) {
	t.Helper()
	for i := 10; len(d.List()) < files; i++ {
		store(t, d, fmt.Sprint("f", i), "")
	}
}

// plain is an entry that is right.
func plain(pos, epoch int) api.Entry {
	return api.Entry{Pos: pos, Epoch: epoch, B: api.Batch{
		Stream: "s", Expect: -1, Session: 2, Seq: max(pos, 1),
		Events: []api.Event{{Kind: "k", Data: "xy"}, {Kind: "l"}},
	}}
}

// row are entries from a place on, of these epochs.
func row(first int, epochs ...int) []api.Entry {
	var l []api.Entry
	for i, epoch := range epochs {
		l = append(l, plain(first+i, epoch))
	}
	return l
}

// many are so many entries from a place on, of one epoch.
func many(first, epoch, count int) []api.Entry {
	return row(first, slices.Repeat([]int{epoch}, count)...)
}

// sameEntry asks each part by itself.
func sameEntry(a, b api.Entry) bool {
	return a.Pos == b.Pos && a.Epoch == b.Epoch && a.B.Stream == b.B.Stream && a.B.Expect == b.B.Expect &&
		a.B.Session == b.B.Session && a.B.Seq == b.B.Seq && slices.Equal(a.B.Events, b.B.Events)
}

func sameRow(a, b []api.Entry) bool {
	return slices.EqualFunc(a, b, sameEntry)
}

// brief tells entries without their batches.
func brief(l []api.Entry) string {
	var out strings.Builder
	for _, e := range l {
		fmt.Fprintf(&out, " %d/%d", e.Pos, e.Epoch)
	}
	return out.String()
}

func open(t testing.TB, d *disk.Disk) *log.Log {
	t.Helper()
	l, err := log.Open(d)
	if l == nil || err != api.OK {
		t.Fatalf("Open of %.300s: %v, %d", tell(d), l, err)
	}
	return l
}

// holding is a log of these entries, and its disk.
func holding(t testing.TB, e []api.Entry) (*disk.Disk, *log.Log) {
	t.Helper()
	d := made(t, plenty)
	l := open(t, d)
	if err := l.Append(e); err != api.OK {
		t.Fatalf("Append of %d entries: %d", len(e), err)
	}
	return d, l
}

// marksOf follows the words of chapter 6.
func marksOf(l []api.Entry) []api.Mark {
	var out []api.Mark
	epoch := 0
	for _, e := range l {
		if e.Epoch != epoch {
			out = append(out, api.Mark{Epoch: e.Epoch, First: e.Pos})
		}
		epoch = e.Epoch
	}
	return out
}

// checkLog asks all that a log tells against the entries and the segments that it must have.
func checkLog(t testing.TB, what string, l *log.Log, want []api.Entry, segs []int) {
	t.Helper()
	epoch := 0
	for _, e := range want {
		epoch = e.Epoch
	}
	if l.Last() != len(want) || l.Epoch() != epoch || !slices.Equal(l.Segs(), segs) {
		t.Fatalf("%s: Last %d, Epoch %d, Segs %d, want %d, %d, %d", what, l.Last(), l.Epoch(), l.Segs(), len(want), epoch, segs)
	}
	if got := l.Range(1, math.MaxInt); !sameRow(got, want) {
		t.Fatalf("%s:%s, want%s", what, brief(got), brief(want))
	}
	if got := l.Marks(); !slices.Equal(got, marksOf(want)) {
		t.Fatalf("%s: Marks = %v, want %v", what, got, marksOf(want))
	}
}

// checkOpened asks that a disk opens to these entries and segments, whatever a crash takes, and that it is right as it is: Open changes nothing.
func checkOpened(t testing.TB, what string, d *disk.Disk, want []api.Entry, segs []int) {
	t.Helper()
	other := d.Clone()
	other.Crash(nil)
	before := tell(other)
	checkLog(t, what+", opened", open(t, other), want, segs)
	if tell(other) != before {
		t.Fatalf("%s: Open made %.300s of %.300s", what, tell(other), before)
	}
}

// checkDisk holds a disk, and an error that a call told, against what they must be.
func checkDisk(t testing.TB, what string, d *disk.Disk, want string, err, wantErr api.Errno) {
	t.Helper()
	if err != wantErr || tell(d) != want {
		t.Fatalf("%s: %d, %.300s, want %d, %.300s", what, err, tell(d), wantErr, want)
	}
}

// L1, L3, L4: the chapter's examples.
func TestExamples(t *testing.T) {
	l := open(t, made(t, plenty))
	if err := l.Append(many(1, 1, 9)); err != api.OK || !slices.Equal(l.Segs(), []int{1, 2}) {
		t.Errorf("Append of entries 1 to 9: %d, Segs %d", err, l.Segs())
	}
	if err := l.Truncate(8); err != api.OK || !slices.Equal(l.Segs(), []int{1}) {
		t.Errorf("Truncate(8): %d, Segs %d", err, l.Segs())
	}
}

// someLogs have no entries, one, one epoch, some, and segments of all sizes.
func someLogs() [][]api.Entry {
	return [][]api.Entry{
		nil, row(1, 1), row(1, 1<<38), row(1, 2, 2, 2), row(1, 1, 2, 3), many(1, 7, 8), many(1, 7, 9),
		row(1, 1, 1, 4, 4, 4, 5, 9, 9, 9, 9, 300, 301, 301, 301, 301, 301, 301, 1<<38), many(1, 3, 240), append(many(1, 3, 239), plain(240, 4)),
	}
}

// segsOf are the segments of a log that was added at once.
func segsOf(count int) []int {
	var segs []int
	for i := 0; i < count; i += 8 {
		segs = append(segs, i/8+1)
	}
	return segs
}

// L2: Last, Epoch, Marks and Segs of no entries, of one and of many epochs and segments.
func TestAsked(t *testing.T) {
	for _, e := range someLogs() {
		d, l := holding(t, e)
		before := tell(d)
		checkLog(t, "asked", l, e, segsOf(len(e)))
		checkLog(t, "asked again", l, e, segsOf(len(e)))
		if tell(d) != before {
			t.Errorf("asking made %.300s of %.300s", tell(d), before)
		}
		checkLog(t, "opened", open(t, d), e, segsOf(len(e)))
	}
	_, l := holding(t, row(1, 1, 1, 4, 4, 9))
	if got := l.Marks(); !slices.Equal(got, []api.Mark{{Epoch: 1, First: 1}, {Epoch: 4, First: 3}, {Epoch: 9, First: 5}}) {
		t.Errorf("Marks = %v", got)
	}
}

// L2: At of each place, and of places that there are not.
func TestAt(t *testing.T) {
	for _, e := range someLogs() {
		_, l := holding(t, e)
		for _, want := range e {
			if got, is := l.At(want.Pos); !is || !sameEntry(got, want) {
				t.Errorf("At(%d) of %d = %v, %t", want.Pos, len(e), got, is)
			}
		}
		for _, pos := range []int{0, -1, -2, -len(e), -1 << 32, math.MinInt, len(e) + 1, len(e) + 2, 1<<32 + 1, 1 << 38, math.MaxInt} {
			if got, is := l.At(pos); is || !sameEntry(got, api.Entry{}) {
				t.Errorf("At(%d) of %d = %v, %t", pos, len(e), got, is)
			}
		}
	}
}

// L2: Range from each place, and from below and behind, of few, of all, and of more.
func TestRange(t *testing.T) {
	for _, e := range someLogs() {
		_, l := holding(t, e)
		last := len(e)
		for _, from := range []int{math.MinInt, -1 << 32, -5, -1, 0, 1, 2, 7, 8, 9, last - 1, last, last + 1, last + 2, 1 << 38, math.MaxInt - 1, math.MaxInt} {
			for _, most := range []int{math.MinInt, -1 << 32, -1, 0, 1, 2, 8, 16, last - 1, last, last + 1, 1 << 38, math.MaxInt - 1, math.MaxInt} {
				var want []api.Entry
				for _, one := range e {
					if one.Pos >= from && len(want) < most {
						want = append(want, one)
					}
				}
				if got := l.Range(from, most); !sameRow(got, want) {
					t.Errorf("Range(%d, %d) of %d:%s, want%s", from, most, last, brief(got), brief(want))
				}
			}
		}
	}
}

// spoil writes into entries, and behind them.
func spoil(l []api.Entry) {
	for i := range l {
		for j := range l[i].B.Events {
			l[i].B.Events[j] = api.Event{Kind: "changed"}
		}
		l[i].B.Events = append(l[i].B.Events, api.Event{Kind: "more"})
		l[i].Pos, l[i].Epoch, l[i].B.Stream = -1, -1, "changed"
	}
	more := append(l, plain(-2, -2), plain(-3, -3))
	for i := range more[:cap(more)] {
		more[:cap(more)][i] = plain(-4, -4)
	}
}

// P3, L2: what a caller does to an answer does not change the log, nor another answer.
func TestAnswersAreNew(t *testing.T) {
	e := row(1, 1, 1, 2, 2, 2, 2, 2, 2, 3, 3, 4)
	_, l := holding(t, e)
	other := l.Range(1, 11)
	for from := range 12 {
		for most := range 12 {
			spoil(l.Range(from, most))
			checkLog(t, "Range changed", l, e, []int{1, 2})
		}
		if one, is := l.At(from); is {
			spoil([]api.Entry{one})
		}
		checkLog(t, "At changed", l, e, []int{1, 2})
	}
	marks, segs := l.Marks(), l.Segs()
	for i := range marks {
		marks[i] = api.Mark{Epoch: 9, First: 9}
	}
	for i := range segs {
		segs[i] = 9
	}
	marks, segs = append(marks, api.Mark{Epoch: 8, First: 8}), append(segs, 8)
	checkLog(t, "Marks and Segs changed", l, e, []int{1, 2})
	if err := l.Append(many(12, 4, 8)); err != api.OK || len(marks) != 5 || len(segs) != 3 {
		t.Errorf("Append: %d", err)
	}
	checkLog(t, "Append behind", l, append(slices.Clone(e), many(12, 4, 8)...), []int{1, 2, 3})
	if !sameRow(other, e) || marks[4] != (api.Mark{Epoch: 8, First: 8}) || segs[2] != 8 {
		t.Errorf("an answer was changed:%s, %v, %v", brief(other), marks, segs)
	}
}

// P3: what was answered stays as it was, whatever is done to the log.
func TestAnswersStay(t *testing.T) {
	e := row(1, 1, 1, 2, 2, 2, 2, 2, 2, 3, 3, 4)
	_, l := holding(t, e)
	all, part, marks, segs := l.Range(1, 99), l.Range(3, 4), l.Marks(), l.Segs()
	l.Truncate(2)
	l.Append(many(3, 9, 20))
	if !sameRow(all, e) || !sameRow(part, e[2:6]) || len(marks) != 4 || marks[1].Epoch != 2 || !slices.Equal(segs, []int{1, 2}) {
		t.Errorf("%s,%s, %v, %v", brief(all), brief(part), marks, segs)
	}
}

// P1: a Log that Open did not make has nothing, and takes nothing.
func TestNoLog(t *testing.T) {
	if l, err := log.Open(nil); l != nil || err != api.ErrArg {
		t.Errorf("Open of no disk: %v, %d", l, err)
	}
	var l log.Log
	checkLog(t, "a Log that Open did not make", &l, nil, nil)
	if err := l.Append(row(1, 1)); err != api.ErrArg {
		t.Errorf("Append: %d", err)
	}
	if err := l.Append(nil); err != api.OK {
		t.Errorf("Append of nothing: %d", err)
	}
	if below, at := l.Truncate(-1), l.Truncate(0); below != api.ErrArg || at != api.OK {
		t.Errorf("Truncate: %d, %d", below, at)
	}
	checkLog(t, "a Log that Open did not make", &l, nil, nil)
}
