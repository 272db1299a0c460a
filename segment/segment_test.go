package segment_test

import (
	"fmt"
	"math"
	"slices"
	"strings"
	"testing"

	"bucketline/api"
	"bucketline/disk"
	"bucketline/segment"
)

const plenty = 1 << 20

func made(t testing.TB, room int) *disk.Disk {
	t.Helper()
	d, err := disk.New(room)
	if d == nil || err != api.OK {
		t.Fatalf("New(%d) = %v, %d", room, d, err)
	}
	return d
}

// tell is all that can be asked of a disk: each file as name=bytes/synced.
func tell(d *disk.Disk) string {
	var parts []string
	for _, name := range d.List() {
		s, err := d.Read(name)
		if err != api.OK {
			return fmt.Sprintf("Read(%q): %d", name, err)
		}
		parts = append(parts, fmt.Sprintf("%s=%q/%d", name, s, d.Synced(name)))
	}
	return strings.Join(parts, " ")
}

// store puts bytes behind those of a file.
func store(t testing.TB, d *disk.Disk, name, s string) {
	t.Helper()
	if err := d.Append(name, s); err != api.OK {
		t.Fatalf("Append(%q, %.60q): %d", name, s, err)
	}
}

func synced(t testing.TB, d *disk.Disk, name, s string) {
	t.Helper()
	store(t, d, name, s)
	if err := d.Sync(name); err != api.OK {
		t.Fatalf("Sync(%q): %d", name, err)
	}
}

// holding is a disk with a file, all of it synced.
func holding(t testing.TB, name, s string) *disk.Disk {
	t.Helper()
	d := made(t, plenty)
	synced(t, d, name, s)
	return d
}

// crowd puts files without bytes on a disk, up to so many files in all.
func crowd(t testing.TB, d *disk.Disk, files int) {
	t.Helper()
	for i := 10; len(d.List()) < files; i++ {
		store(t, d, fmt.Sprint("f", i), "")
	}
}

// plain is an entry that is right.
func plain(pos, epoch int) api.Entry {
	return api.Entry{Pos: pos, Epoch: epoch, B: api.Batch{
		Stream: "s", Expect: -1, Session: 2, Seq: pos,
		Events: []api.Event{{Kind: "k", Data: "xy"}, {Kind: "l"}},
	}}
}

// row are entries from a place on, of these epochs.
func row(first int, epochs ...int) []api.Entry {
	var l []api.Entry
	for i, epoch := range epochs {
		l = append(l, plain(first+i, epoch))
	}
	return l
}

// sameEntry asks each part by itself.
func sameEntry(a, b api.Entry) bool {
	return a.Pos == b.Pos && a.Epoch == b.Epoch && a.B.Stream == b.B.Stream && a.B.Expect == b.B.Expect &&
		a.B.Session == b.B.Session && a.B.Seq == b.B.Seq && slices.Equal(a.B.Events, b.B.Events)
}

func same(a, b segment.Segment) bool {
	return a.First == b.First && a.Torn == b.Torn && slices.EqualFunc(a.Entries, b.Entries, sameEntry)
}

// brief tells a segment without its batches.
func brief(s segment.Segment) string {
	out := fmt.Sprint("from ", s.First, ":")
	for _, e := range s.Entries {
		out += fmt.Sprint(" ", e.Pos, "/", e.Epoch)
	}
	if s.Torn {
		out += " torn"
	}
	return out
}

// checkLoad asks Load, and that it changes nothing.
func checkLoad(t testing.TB, what string, d *disk.Disk, n int, want segment.Segment, wantErr api.Errno) {
	t.Helper()
	before := tell(d)
	got, err := segment.Load(d, n)
	if !same(got, want) || err != wantErr {
		t.Errorf("%s: Load(%d) = %s, %d, want %s, %d", what, n, brief(got), err, brief(want), wantErr)
	}
	if tell(d) != before {
		t.Errorf("%s: Load(%d) made %.300s of %.300s", what, n, tell(d), before)
	}
}

// checkDisk holds a disk, and an error that a call told, against what they must be.
func checkDisk(t testing.TB, what string, d *disk.Disk, want string, err, wantErr api.Errno) {
	t.Helper()
	if err != wantErr || tell(d) != want {
		t.Errorf("%s: %d, %.300s, want %d, %.300s", what, err, tell(d), wantErr, want)
	}
}

// noNumbers are the numbers of no segment.
func noNumbers() []int {
	return []int{math.MinInt, -1 << 32, -1 << 30, -2, -1, 0, 1<<30 + 1, 1 << 31, 1<<32 + 1, 1 << 38, math.MaxInt}
}

// noFirsts are the first places of no segment.
func noFirsts() []int {
	return []int{math.MinInt, -1 << 38, -1, 0, 1<<38 + 1, 1 << 39, 1 << 40, 1<<40 + 1, math.MaxInt}
}

// firsts reach both edges.
func firsts() []int {
	return []int{1, 2, 5, 127, 128, 300, 16384, 1 << 32, 1<<38 - 1, 1 << 38}
}

// S1 to S3: the chapter's examples.
func TestExamples(t *testing.T) {
	d := made(t, plenty)
	created, added := segment.Create(d, 1, 5), segment.Add(d, 1, row(5, 1, 1))
	s, err := segment.Load(d, 1)
	if created != api.OK || added != api.OK || err != api.OK || s.First != 5 || len(s.Entries) != 2 || s.Torn {
		t.Errorf("Create: %d, Add: %d, Load: %s, %d", created, added, brief(s), err)
	}
	if err := segment.Add(d, 1, row(8, 1)); err != api.ErrGap {
		t.Errorf("Add of entry 8: %d", err)
	}
	if segment.Temp != "temp" {
		t.Errorf("Temp is %q", segment.Temp)
	}
}

// S1: the name of each number, and back.
func TestName(t *testing.T) {
	for n, want := range map[int]string{
		1: "seg-1", 2: "seg-2", 9: "seg-9", 10: "seg-10", 99: "seg-99", 100: "seg-100", 1000000: "seg-1000000",
		1<<30 - 1: "seg-1073741823", 1 << 30: "seg-1073741824",
	} {
		if got := segment.Name(n); got != want {
			t.Errorf("Name(%d) = %q, want %q", n, got, want)
		}
		if got := segment.Number(want); got != n {
			t.Errorf("Number(%q) = %d, want %d", want, got, n)
		}
	}
	for _, n := range noNumbers() {
		if got := segment.Name(n); got != "" {
			t.Errorf("Name(%d) = %q", n, got)
		}
		if got := segment.Number(fmt.Sprint("seg-", n)); got != 0 {
			t.Errorf("Number of seg-%d = %d", n, got)
		}
	}
}

// S1: Number tells the n of Name(n), over a long row of them.
func TestNumberOfName(t *testing.T) {
	check := func(n int) {
		if got := segment.Number(segment.Name(n)); got != n || segment.Name(n) != fmt.Sprint("seg-", n) {
			t.Fatalf("Name(%d) = %q; its Number = %d", n, segment.Name(n), got)
		}
	}
	for n := 1; n <= 20000; n++ {
		check(n)
		check(1<<30 + 1 - n)
	}
	for n := 1; n <= 1<<30; n *= 2 {
		check(n)
		check(n/2 + 1)
	}
}

// S1: what is no Name has no Number.
func TestNumberOfNoNames(t *testing.T) {
	for _, name := range []string{
		"", "1", "12", "s", "seg", "seg-", "seg-0", "seg-00", "seg-01", "seg-001", "seg-0000000000001", "seg-+1", "seg--1", "seg-+0", "seg--0", "seg-+01",
		"seg-1.", "seg-1.0", "seg-1e3", "seg-1_0", "seg-0x1", "seg-x", "seg-a", "seg-1a", "seg-a1", "seg- 1", "seg-1 ", " seg-1", "seg -1", "seg-1\n", "seg-1\x00", "\x00seg-1",
		"Seg-1", "SEG-1", "seg_1", "seg.1", "seg1", "seg-seg-1", "xseg-1", "seg-1-", "seg-1-1", "eg-1", "g-1", "-1", "+1", "01", "temp", "manifest", "epoch",
		"seg-\xff", "seg-1\xff", "seg-١", "seg-１", "seg-²", "ſeg-1",
		"seg-1073741825", "seg-1073741833", "seg-2147483648", "seg-4294967297", "seg-10737418240", "seg-9223372036854775807", "seg-9223372036854775808", "seg-18446744073709551616", "seg-18446744073709551617",
		"seg-" + strings.Repeat("1", 1000), "seg-" + strings.Repeat("0", 1000) + "1", "seg-" + strings.Repeat("9", 1<<20), strings.Repeat("seg-", 1<<18) + "1",
	} {
		if got := segment.Number(name); got != 0 {
			t.Errorf("Number(%.60q) = %d", name, got)
		}
	}
}

// S1: Create makes the file of the first frame alone, and it is synced.
func TestCreate(t *testing.T) {
	for _, n := range []int{1, 2, 77, 1<<30 - 1, 1 << 30} {
		for _, first := range firsts() {
			what := fmt.Sprintf("Create(%d, %d)", n, first)
			d := made(t, plenty)
			err := segment.Create(d, n, first)
			s := bytesOf(first)
			checkDisk(t, what, d, fmt.Sprintf("seg-%d=%q/%d", n, s, len(s)), err, api.OK)
			checkLoad(t, what, d, n, segment.Segment{First: first}, api.OK)
			d.Crash(nil)
			checkLoad(t, what+" behind a crash", d, n, segment.Segment{First: first}, api.OK)
		}
	}
}

// S1: the first frame, byte by byte.
func TestCreatedBytes(t *testing.T) {
	d := made(t, plenty)
	if err := segment.Create(d, 3, 300); err != api.OK {
		t.Fatal(err)
	}
	if s, _ := d.Read("seg-3"); len(s) != 11 || s[:4] != "\x00\x00\x00\x03" || s[8:] != "s\xac\x02" {
		t.Errorf("% x", s)
	}
}

// S1: other files, those of other segments among them, stay as they are.
func TestCreateLeavesOthers(t *testing.T) {
	d := made(t, plenty)
	store(t, d, "seg-10", "abc")
	synced(t, d, segment.Temp, "temp")
	store(t, d, segment.Temp, "more")
	before := tell(d)
	s := bytesOf(9)
	err := segment.Create(d, 1, 9)
	checkDisk(t, "Create(1, 9)", d, fmt.Sprintf("seg-1=%q/%d %s", s, len(s), before), err, api.OK)
}

// S1: a number or a first place that is none is told ahead of all else, and nothing is made.
func TestCreateOfWrongNumbers(t *testing.T) {
	d := holding(t, "seg-1", bytesOf(1))
	full := made(t, 1)
	store(t, full, "x", "x")
	crowd(t, full, disk.MaxFiles)
	for _, d := range []*disk.Disk{made(t, plenty), d, full} {
		before := tell(d)
		for _, n := range noNumbers() {
			for _, first := range append(noFirsts(), firsts()...) {
				checkDisk(t, fmt.Sprintf("Create(%d, %d)", n, first), d, before, segment.Create(d, n, first), api.ErrArg)
			}
		}
		for _, n := range []int{1, 2, 1 << 30} {
			for _, first := range noFirsts() {
				checkDisk(t, fmt.Sprintf("Create(%d, %d)", n, first), d, before, segment.Create(d, n, first), api.ErrArg)
			}
		}
	}
}

// S1: a file that is there, whatever it has, is told ahead of what the disk has no room for, and stays as it is.
func TestCreateOfWhatIsThere(t *testing.T) {
	for _, s := range []string{"", "x", "nonsense", bytesOf(1), bytesOf(7), bytesOf(7, row(7, 1, 2)...), bytesOf(7)[:4]} {
		for _, full := range []bool{false, true} {
			d := made(t, len(s)+1)
			store(t, d, "seg-7", s)
			if full {
				store(t, d, "x", "x")
				crowd(t, d, disk.MaxFiles)
			}
			for _, sync := range []bool{false, true} {
				if sync {
					d.Sync("seg-7")
				}
				checkDisk(t, fmt.Sprintf("Create(7, 7) of %.60q", s), d, tell(d), segment.Create(d, 7, 7), api.ErrThere)
			}
		}
	}
}

// S1: a disk with one byte too few has no room for the first frame, and nothing is left of it.
func TestCreateWithoutRoom(t *testing.T) {
	for _, first := range firsts() {
		need := len(bytesOf(first))
		for _, others := range []string{"", "x", "0123456789"} {
			for short := range need + 1 {
				d := made(t, max(need+len(others)-short, 1))
				if d.Append("x", others) != api.OK {
					continue
				}
				before := tell(d)
				err := segment.Create(d, 2, first)
				if short > 0 {
					checkDisk(t, fmt.Sprintf("Create(2, %d) with %d bytes too few", first, short), d, before, err, api.ErrFull)
				} else if err != api.OK || d.Used() != need+len(others) {
					t.Errorf("Create(2, %d) with just enough room: %d, %s", first, err, tell(d))
				}
			}
		}
	}
}

// S1: a disk with as many files as there may be has no place for another one.
func TestCreateWithoutFiles(t *testing.T) {
	d := made(t, plenty)
	crowd(t, d, disk.MaxFiles)
	checkDisk(t, "Create of a 41st file", d, tell(d), segment.Create(d, 1, 1), api.ErrLong)
	d.Delete("f10")
	if err := segment.Create(d, 1, 1); err != api.OK || len(d.List()) != disk.MaxFiles {
		t.Errorf("Create of a 40th file: %d, %s", err, tell(d))
	}
	if err := segment.Create(d, 1, 1); err != api.ErrThere {
		t.Errorf("Create of what is there: %d", err)
	}
	if err := segment.Create(d, 2, 1); err != api.ErrLong || len(d.List()) != disk.MaxFiles {
		t.Errorf("Create of a 41st file: %d, %s", err, tell(d))
	}
}

// P1: a disk that is none, or that New did not make, brings no panic.
func TestOfNoDisk(t *testing.T) {
	for _, d := range []*disk.Disk{nil, new(disk.Disk)} {
		if err := segment.Create(d, 1, 1); err == api.OK {
			t.Errorf("Create: %d", err)
		}
		if err := segment.Create(d, 0, 1); err != api.ErrArg {
			t.Errorf("Create of segment 0: %d", err)
		}
		if s, err := segment.Load(d, 1); !same(s, segment.Segment{}) || err != api.ErrNone {
			t.Errorf("Load: %s, %d", brief(s), err)
		}
		if add, cut := segment.Add(d, 1, row(1, 1)), segment.Cut(d, 1, 0); add != api.ErrNone || cut != api.ErrNone {
			t.Errorf("Add: %d, Cut: %d", add, cut)
		}
	}
}
