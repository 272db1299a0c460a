package segment_test

import (
	"fmt"
	"math"
	"slices"
	"strings"
	"testing"

	"bucketline/api"
	"bucketline/disk"
	"bucketline/segment"
)

// checkAdd asks Add of entries behind others, on a disk that has room; with an error nothing is changed.
func checkAdd(t *testing.T, first int, there, l []api.Entry, want api.Errno) {
	t.Helper()
	what := fmt.Sprintf("Add of %s behind %s", brief(segment.Segment{Entries: l}), brief(segment.Segment{First: first, Entries: there}))
	d := holding(t, "seg-4", bytesOf(first, there...))
	err := segment.Add(d, 4, l)
	all := slices.Clone(there)
	if want == api.OK {
		all = append(all, l...)
	}
	s := bytesOf(first, all...)
	checkDisk(t, what, d, fmt.Sprintf("seg-4=%q/%d", s, len(s)), err, want)
	checkLoad(t, what, d, 4, segment.Segment{First: first, Entries: all}, api.OK)
}

// S3, S4: entries that go on are added: Load tells what was there, and they.
func TestAdd(t *testing.T) {
	for _, first := range []int{1, 5, 128, 1<<38 - 5} {
		for there := range 4 {
			have := row(first, 2, 2, 3)[:there]
			next := first + there
			checkAdd(t, first, have, nil, api.OK)
			checkAdd(t, first, have, []api.Entry{}, api.OK)
			for _, epochs := range [][]int{{3}, {4}, {1 << 38}, {3, 3}, {3, 7}, {3, 4, 1 << 38}} {
				checkAdd(t, first, have, row(next, epochs...), api.OK)
			}
		}
	}
	checkAdd(t, 1<<38, nil, row(1<<38, 1), api.OK)
	checkAdd(t, 1, nil, []api.Entry{greatest(1, 1), greatest(2, 1<<38)}, api.OK)
	checkAdd(t, 1, []api.Entry{greatest(1, 1)}, row(2, 1), api.OK)
}

// S3: entries that do not go on, from the last one or from the first place, or one from another, or that are not right.
func TestAddOfGaps(t *testing.T) {
	for _, first := range []int{1, 5, 1 << 20} {
		for there := range 4 {
			have := row(first, 2, 2, 3)[:there]
			next := first + there
			for _, off := range []int{-1 << 39, -3, -2, -1, 1, 2, 3, 8, 1 << 39, math.MaxInt - next} {
				checkAdd(t, first, have, row(next+off, 3), api.ErrGap)
				checkAdd(t, first, have, row(next+off, 3, 3), api.ErrGap)
				checkAdd(t, first, have, []api.Entry{plain(next, 3), plain(next+1+off, 3)}, api.ErrGap)
				checkAdd(t, first, have, []api.Entry{plain(next, 3), plain(next+1, 3), plain(next+2+off, 3)}, api.ErrGap)
			}
			for _, epochs := range [][]int{{-1}, {0}, {1<<38 + 1}, {math.MinInt}, {math.MaxInt}, {4, 3}, {3, 0}, {3, 4, 3}, {1 << 38, 1}} {
				checkAdd(t, first, have, row(next, epochs...), api.ErrGap)
			}
			for _, change := range []func(e *api.Entry){
				func(e *api.Entry) { e.B.Stream = "" },
				func(e *api.Entry) { e.B.Expect = -2 },
				func(e *api.Entry) { e.B.Session = 0 },
				func(e *api.Entry) { e.B.Seq = 1<<38 + 1 },
				func(e *api.Entry) { e.B.Events = nil },
				func(e *api.Entry) { e.B.Events = slices.Repeat(e.B.Events[:1], 9) },
				func(e *api.Entry) { e.B.Events[0].Data = strings.Repeat("x", 9000) },
			} {
				l := row(next, 3, 3)
				change(&l[1])
				checkAdd(t, first, have, l, api.ErrGap)
				l = row(next, 3, 3)
				change(&l[0])
				checkAdd(t, first, have, l, api.ErrGap)
			}
		}
	}
	checkAdd(t, 5, row(5, 2), row(6, 1), api.ErrGap)
	checkAdd(t, 5, row(5, 2, 3), row(7, 2), api.ErrGap)
	checkAdd(t, 1<<38, row(1<<38, 1), row(1<<38+1, 1), api.ErrGap)
	checkAdd(t, 1<<38-1, nil, row(1<<38-1, 1, 1, 1), api.ErrGap)
}

// S3, P2: Load's errors, and ErrForm of a torn one, are told ahead of those of the entries and of the disk.
func TestAddOfWrongSegments(t *testing.T) {
	lists := [][]api.Entry{nil, row(5, 1), row(6, 2), row(99, 1), row(5, 0)}
	for s, want := range map[string]api.Errno{
		"":                          api.ErrForm,
		"nonsense":                  api.ErrForm,
		bytesOf(0):                  api.ErrForm,
		bytesOf(5)[:8]:              api.ErrForm,
		bytesOf(5) + "x":            api.ErrForm,
		bytesOf(5) + framed("e"):    api.ErrForm,
		bytesOf(5, plain(6, 1)):     api.ErrForm,
		bytesOf(5, row(5, 2, 1)...): api.ErrForm,
		bytesOf(5, plain(5, 1)) + strings.Repeat("\x00", 20): api.ErrForm,
	} {
		for _, l := range lists {
			d := made(t, len(s)+1)
			store(t, d, "seg-4", s)
			store(t, d, "x", "x")
			checkDisk(t, fmt.Sprintf("Add to %.60q", s), d, tell(d), segment.Add(d, 4, l), want)
			for _, n := range append(noNumbers(), 3) {
				checkDisk(t, fmt.Sprint("Add to segment ", n), d, tell(d), segment.Add(d, n, l), api.ErrNone)
			}
		}
	}
}

// S3: what was added is synced, and so is what was there ahead of it; of no entries nothing is done.
func TestAddSyncs(t *testing.T) {
	d := made(t, plenty)
	store(t, d, "seg-4", bytesOf(5, plain(5, 1)))
	checkDisk(t, "Add of no entries", d, tell(d), segment.Add(d, 4, nil), api.OK)
	if err := segment.Add(d, 4, row(6, 1, 1)); err != api.OK || d.Synced("seg-4") != d.Used() {
		t.Errorf("Add: %d; %d of %d bytes are synced", err, d.Synced("seg-4"), d.Used())
	}
	d.Crash(nil)
	checkLoad(t, "behind a crash", d, 4, segment.Segment{First: 5, Entries: row(5, 1, 1, 1)}, api.OK)
}

// S3: a disk that is full just behind the entries takes them; one with a byte less takes nothing.
func TestAddOfRoom(t *testing.T) {
	for there := range 3 {
		for count := 1; count <= 3; count++ {
			have, l := bytesOf(5, row(5, 1, 1)[:there]...), row(5+there, 1, 1, 2)[:count]
			for short := range len(rowBytes(l...)) + 1 {
				d := made(t, 7+len(have)+len(rowBytes(l...))-short)
				store(t, d, "x", "1234567")
				synced(t, d, "seg-4", have)
				before, what := tell(d), fmt.Sprintf("Add of %d entries with %d bytes too few", count, short)
				err := segment.Add(d, 4, l)
				if short > 0 {
					checkDisk(t, what, d, before, err, api.ErrFull)
					checkDisk(t, what+", of a gap", d, before, segment.Add(d, 4, l[1:]), errOfRest(l[1:]))
					continue
				}
				all := have + rowBytes(l...)
				checkDisk(t, what, d, fmt.Sprintf("seg-4=%q/%d x=\"1234567\"/0", all, len(all)), err, api.OK)
				checkDisk(t, "Add of no entries to a full disk", d, tell(d), segment.Add(d, 4, nil), api.OK)
			}
		}
	}
}

// errOfRest is told of entries without their first one.
func errOfRest(l []api.Entry) api.Errno {
	if len(l) == 0 {
		return api.OK
	}
	return api.ErrGap
}

// S3: Add makes no file, so that a disk of as many as there may be takes entries; other files stay as they are.
func TestAddLeavesOthers(t *testing.T) {
	d := holding(t, "seg-4", bytesOf(5))
	store(t, d, segment.Temp, "temp")
	store(t, d, "seg-40", "x")
	crowd(t, d, disk.MaxFiles)
	want := holding(t, "seg-4", bytesOf(5, row(5, 1, 2)...))
	store(t, want, segment.Temp, "temp")
	store(t, want, "seg-40", "x")
	crowd(t, want, disk.MaxFiles)
	checkDisk(t, "Add", d, tell(want), segment.Add(d, 4, row(5, 1, 2)), api.OK)
}

// P3: entries are not written into, nor kept, and what is behind their length is not read.
func TestAddKeepsNothing(t *testing.T) {
	l := row(5, 1, 1, 2, 2)
	l[1].B.Events = l[1].B.Events[:1:2]
	want := []api.Entry{plain(5, 1), plain(6, 1)}
	want[1].B.Events = want[1].B.Events[:1]
	d := holding(t, "seg-4", bytesOf(5))
	if err := segment.Add(d, 4, l[:2]); err != api.OK {
		t.Fatal(err)
	}
	whole := row(5, 1, 1, 2, 2)
	l[1].B.Events = l[1].B.Events[:2]
	if !slices.EqualFunc(l, whole, sameEntry) {
		t.Errorf("Add changed its entries: %v", l)
	}
	for i := range l {
		l[i].B.Events[0].Data = "changed"
		l[i] = api.Entry{}
	}
	checkLoad(t, "entries were changed", d, 4, segment.Segment{First: 5, Entries: want}, api.OK)
}

// P1: a long list is added at once.
func TestAddOfMany(t *testing.T) {
	const many = 5000
	var l []api.Entry
	for i := range many {
		l = append(l, plain(i+1, 1))
	}
	d := made(t, 1<<24)
	if segment.Create(d, 1, 1) != api.OK || segment.Add(d, 1, l) != api.OK {
		t.Fatal("Create or Add errs")
	}
	checkLoad(t, "many entries", d, 1, segment.Segment{First: 1, Entries: l}, api.OK)
	l[many-1].Pos++
	if err := segment.Add(d, 1, l); err != api.ErrGap {
		t.Errorf("Add of a gap: %d", err)
	}
}

// S4: rows of Adds, of any lengths: Load tells all of them in order, whatever the crashes between.
func TestLoadBehindAdds(t *testing.T) {
	for size := 1; size <= 4; size++ {
		d := made(t, plenty)
		if err := segment.Create(d, 9, 3); err != api.OK {
			t.Fatal(err)
		}
		var all []api.Entry
		for i := range 12 {
			var l []api.Entry
			for range (i * size) % 5 {
				l = append(l, plain(3+len(all)+len(l), 1+i))
			}
			if err := segment.Add(d, 9, l); err != api.OK {
				t.Fatalf("Add %d: %d", i, err)
			}
			all = append(all, l...)
			checkLoad(t, "behind Add", d, 9, segment.Segment{First: 3, Entries: all}, api.OK)
			d.Crash([]int{1})
			checkLoad(t, "behind a crash", d, 9, segment.Segment{First: 3, Entries: all}, api.OK)
		}
	}
}

// S4: a crash within Add, that is behind its Append and ahead of its Sync, with whatever is kept.
func TestCrashWithinAdd(t *testing.T) {
	for there := range 3 {
		for count := 1; count <= 3; count++ {
			have, l := row(5, 1, 1)[:there], row(5+there, 2, 2, 3)[:count]
			added := rowBytes(l...)
			for keep := -1; keep <= len(added)+1; keep++ {
				d := holding(t, "seg-4", bytesOf(5, have...))
				store(t, d, "a", "ahead of it")
				store(t, d, "seg-4", added)
				store(t, d, segment.Temp, "behind it")
				d.Crash([]int{3, keep, 5})
				kept := 0
				for kept < count && len(rowBytes(l[:kept+1]...)) <= keep {
					kept++
				}
				torn := keep > 0 && keep < len(added) && keep != len(rowBytes(l[:kept]...))
				want := segment.Segment{First: 5, Entries: slices.Concat(have, l[:kept]), Torn: torn}
				what := fmt.Sprintf("%d of %d bytes are kept", keep, len(added))
				checkLoad(t, what, d, 4, want, api.OK)
				goOnBehindCrash(t, what, d, want)
			}
		}
	}
}

// goOnBehindCrash cuts what is torn off segment 4, and adds to it.
func goOnBehindCrash(t *testing.T, what string, d *disk.Disk, s segment.Segment) {
	t.Helper()
	last := s.First + len(s.Entries) - 1
	if err := segment.Cut(d, 4, last); err != api.OK {
		t.Errorf("%s: Cut: %d", what, err)
	}
	more := row(last+1, 9)
	if err := segment.Add(d, 4, more); err != api.OK {
		t.Errorf("%s: Add: %d", what, err)
	}
	d.Crash(nil)
	checkLoad(t, what, d, 4, segment.Segment{First: s.First, Entries: slices.Concat(s.Entries, more)}, api.OK)
}

// S4: a crash within Create leaves what Load errs of, or all of it.
func TestCrashWithinCreate(t *testing.T) {
	head := bytesOf(300)
	for keep := range len(head) + 1 {
		d := made(t, plenty)
		store(t, d, "seg-4", head)
		d.Crash([]int{keep})
		if keep < len(head) {
			checkLoad(t, "a crash", d, 4, segment.Segment{}, api.ErrForm)
		} else {
			checkLoad(t, "a crash", d, 4, segment.Segment{First: 300}, api.OK)
		}
	}
}
