package log_test

import (
	"fmt"
	"slices"
	"testing"

	"bucketline/api"
	"bucketline/disk"
	"bucketline/log"
	"bucketline/segment"
)

// loose is how many bytes of all files a crash may take.
func loose(d *disk.Disk) int {
	return d.Used() - syncedBytes(d)
}

func syncedBytes(d *disk.Disk) int {
	sum := 0
	for _, name := range d.List() {
		sum += d.Synced(name)
	}
	return sum
}

// keeping is a disk behind a crash that keeps so many bytes of each file.
func keeping(d *disk.Disk, keep int) *disk.Disk {
	other := d.Clone()
	other.Crash(slices.Repeat([]int{keep}, len(other.List())))
	return other
}

// stopped are the disks that a call may leave if it is stopped: ahead of its first step, and behind each one.
func stopped(t testing.TB, d *disk.Disk, call func(r *ref) api.Errno) []*disk.Disk {
	t.Helper()
	r, err := refOpen(d.Clone())
	if err != api.OK {
		t.Fatalf("by the words, Open of %.300s: %d", tell(d), err)
	}
	r.stops = []*disk.Disk{r.d.Clone()}
	call(r)
	return r.stops
}

// reopened asks that a disk opens behind a crash, as the words have it, and that the log goes on from there. It answers the entries.
func reopened(t testing.TB, what string, d *disk.Disk) []api.Entry {
	t.Helper()
	l, err := checkOpen(t, what, d)
	if err != api.OK {
		t.Fatalf("%s: Open of %.300s: %d", what, tell(d), err)
	}
	e := l.Range(1, l.Last())
	more := many(l.Last()+1, max(l.Epoch(), 1), 1)
	other := d.Clone()
	if err := open(t, other).Append(more); err != api.OK {
		t.Fatalf("%s: Append: %d", what, err)
	}
	other.Crash(nil)
	checkLog(t, what+", Append, a crash", open(t, other), append(slices.Clone(e), more...), open(t, other).Segs())
	return e
}

// checkStops crashes in each step of a call, with whatever is kept, and asks of right whether the entries that Open tells may be. Of some it crashes within that Open, too: that loses nothing more.
func checkStops(t testing.TB, what string, stops []*disk.Disk, right func(e []api.Entry) bool) {
	t.Helper()
	for i, stop := range stops {
		for keep := range loose(stop) + 1 {
			what := fmt.Sprintf("%s, stopped at %d of %d, %d bytes kept", what, i, len(stops), keep)
			torn := keeping(stop, keep)
			e := reopened(t, what, torn.Clone())
			if !right(e) {
				t.Fatalf("%s:%s", what, brief(e))
			}
			if keep%31 != 0 && keep < loose(stop)-1 {
				continue
			}
			opening, _ := refOpen(torn)
			for _, again := range opening.stops {
				for _, kept := range []int{0, loose(again) / 2, loose(again)} {
					if f := reopened(t, what+", and again", keeping(again, kept)); !sameRow(f, e) {
						t.Fatalf("%s, and again:%s, want%s", what, brief(f), brief(e))
					}
				}
			}
		}
	}
}

// isBeginning asks whether entries are the first ones of others, and at least so many.
func isBeginning(e, of []api.Entry, least int) bool {
	return len(e) >= least && len(e) <= len(of) && sameRow(e, of[:len(e)])
}

// checkAppendStops holds the log's own call against the steps, too: it ends where they end.
func checkAppendStops(t *testing.T, d *disk.Disk, count int) {
	t.Helper()
	own := d.Clone()
	l := open(t, own)
	was, sure := l.Range(1, l.Last()), l.Last()
	more := many(sure+1, 2, count)
	all := append(slices.Clone(was), more...)
	stops := stopped(t, d, func(r *ref) api.Errno { return r.Append(more) })
	what, end := fmt.Sprintf("Append of %d", count), len(stops)-1
	checkStops(t, what, stops, func(e []api.Entry) bool { return isBeginning(e, all, sure) })
	checkStops(t, what+", done", stops[end:], func(e []api.Entry) bool { return sameRow(e, all) })
	checkDisk(t, what, own, tell(stops[end]), l.Append(more), api.OK)
}

// checkTruncateStops does the same of a Truncate.
func checkTruncateStops(t *testing.T, d *disk.Disk, last int) {
	t.Helper()
	own := d.Clone()
	l := open(t, own)
	was := l.Range(1, l.Last())
	stops := stopped(t, d, func(r *ref) api.Errno { return r.Truncate(last) })
	what, end := fmt.Sprintf("Truncate(%d)", last), len(stops)-1
	checkStops(t, what, stops, func(e []api.Entry) bool { return isBeginning(e, was, last) })
	checkStops(t, what+", done", stops[end:], func(e []api.Entry) bool { return sameRow(e, was[:last]) })
	checkDisk(t, what, own, tell(stops[end]), l.Truncate(last), api.OK)
}

// L5: a crash in each step of an Append, behind each beginning: all that was there stays, and of what was being added there is a beginning; behind the last step there is all.
func TestCrashWithinAppend(t *testing.T) {
	for begun, d := range beginnings(t) {
		t.Run(begun, func(t *testing.T) {
			t.Parallel()
			for _, count := range []int{1, 3, 9, 17} {
				checkAppendStops(t, d, count)
			}
		})
	}
}

// L5: a crash in each step of a Truncate: all that it leaves stays, and of what it cuts there is a beginning; behind the last step there is nothing.
func TestCrashWithinTruncate(t *testing.T) {
	for begun, d := range beginnings(t) {
		t.Run(begun, func(t *testing.T) {
			t.Parallel()
			for last := range open(t, d.Clone()).Last() {
				checkTruncateStops(t, d, last)
			}
		})
	}
}

// L5: what Truncate said OK of does not come again, whatever is added in its place with whatever crash: an epoch tells one from the other.
func TestCrashBehindTruncate(t *testing.T) {
	d, l := holding(t, many(1, 1, 20))
	for _, last := range []int{0, 1, 7, 8, 9, 16, 19} {
		t.Run(fmt.Sprint(last), func(t *testing.T) {
			t.Parallel()
			cut := d.Clone()
			open(t, cut).Truncate(last)
			more := many(last+1, 2, 10)
			all := append(many(1, 1, last), more...)
			stops := stopped(t, cut, func(r *ref) api.Errno { return r.Append(more) })
			checkStops(t, "Append behind Truncate", stops, func(e []api.Entry) bool { return isBeginning(e, all, last) })
		})
	}
	checkLog(t, "the first log", l, many(1, 1, 20), []int{1, 2, 3})
}

// L5: a crash behind each call of a log, with nothing or something kept, takes nothing, as nothing is left that is not synced.
func TestNothingIsLoose(t *testing.T) {
	d, l := holding(t, nil)
	var want []api.Entry
	check := func(what string) {
		t.Helper()
		if loose(d) != 0 {
			t.Fatalf("%s: %d bytes are not synced: %.300s", what, loose(d), tell(d))
		}
		for keep := -1; keep < 3; keep++ {
			e := reopened(t, what, keeping(d, keep))
			if !sameRow(e, want) {
				t.Fatalf("%s, a crash:%s, want%s", what, brief(e), brief(want))
			}
		}
	}
	for i := range 40 {
		more := many(len(want)+1, i+1, i%11)
		want = append(want, more...)
		if err := l.Append(more); err != api.OK {
			t.Fatalf("Append: %d", err)
		}
		check(fmt.Sprint("Append to ", len(want)))
		if i%3 == 2 {
			last := max(len(want)-i%13, 0)
			want = want[:last:last]
			if err := l.Truncate(last); err != api.OK {
				t.Fatalf("Truncate: %d", err)
			}
			check(fmt.Sprint("Truncate to ", last))
		}
	}
}

// L5: whatever a crash keeps of other files, and of a Temp that another hand wrote.
func TestCrashWithOtherFiles(t *testing.T) {
	e := many(1, 1, 12)
	d, _ := holding(t, e)
	store(t, d, "a", "not synced")
	store(t, d, segment.Temp, "not synced")
	store(t, d, "seg-9", bytesOf(13, many(13, 1, 2)...))
	for keep := -1; keep < 30; keep++ {
		if got := reopened(t, "other files", keeping(d, keep)); !sameRow(got, e) {
			t.Errorf("other files:%s", brief(got))
		}
	}
}

// L5: a disk with too little room for what was being done: a crash within it loses nothing, either.
func TestCrashWithoutRoom(t *testing.T) {
	was := many(1, 1, 10)
	d, _ := holding(t, was)
	all := append(slices.Clone(was), many(11, 2, 12)...)
	for more := 0; more < 600; more += 7 {
		small := resized(t, d, d.Used()+more)
		r, _ := refOpen(small.Clone())
		r.stops = nil
		r.Append(all[10:])
		r.Truncate(3)
		for _, stop := range r.stops {
			for _, keep := range []int{0, 1, loose(stop) / 2, loose(stop)} {
				l, err := log.Open(keeping(stop, keep))
				// A torn segment that there is no room to cut is told, and stays.
				if err == api.ErrFull {
					continue
				}
				if e := l.Range(1, 99); err != api.OK || !isBeginning(e, all, 3) {
					t.Fatalf("%d bytes more: %d,%s", more, err, brief(e))
				}
			}
		}
	}
}
