package disk_test

import (
	"fmt"
	"math"
	"slices"
	"strings"
	"testing"

	"bucketline/api"
	"bucketline/disk"
)

func made(t testing.TB, room int) *disk.Disk {
	t.Helper()
	d, err := disk.New(room)
	if d == nil || err != api.OK {
		t.Fatalf("New(%d) = %v, %d", room, d, err)
	}
	return d
}

// tell is all that can be asked of a disk: each file as name=bytes/synced, and how many bytes all have.
func tell(d *disk.Disk) string {
	var parts []string
	for _, name := range d.List() {
		s, err := d.Read(name)
		part := fmt.Sprintf("%s=%s/%d", name, s, d.Synced(name))
		if err != api.OK {
			part += fmt.Sprintf("!%d", err)
		}
		parts = append(parts, part)
	}
	return strings.Join(append(parts, fmt.Sprint(d.Used())), " ")
}

// step is a call, the error it must tell, and what the disk must be behind it.
type step struct {
	what string
	do   func(d *disk.Disk) api.Errno
	err  api.Errno
	want string
}

func write(name, s string, err api.Errno, want string) step {
	return step{fmt.Sprintf("Append(%q, %q)", name, s), func(d *disk.Disk) api.Errno { return d.Append(name, s) }, err, want}
}

func sync(name string, err api.Errno, want string) step {
	return step{fmt.Sprintf("Sync(%q)", name), func(d *disk.Disk) api.Errno { return d.Sync(name) }, err, want}
}

func rename(from, to string, err api.Errno, want string) step {
	return step{fmt.Sprintf("Rename(%q, %q)", from, to), func(d *disk.Disk) api.Errno { return d.Rename(from, to) }, err, want}
}

func remove(name string, err api.Errno, want string) step {
	return step{fmt.Sprintf("Delete(%q)", name), func(d *disk.Disk) api.Errno { return d.Delete(name) }, err, want}
}

func crash(want string, keep ...int) step {
	return step{fmt.Sprintf("Crash(%d)", keep), func(d *disk.Disk) api.Errno { d.Crash(keep); return api.OK }, api.OK, want}
}

func run(t *testing.T, d *disk.Disk, steps ...step) {
	t.Helper()
	for i, s := range steps {
		if err := s.do(d); err != s.err || tell(d) != s.want {
			t.Fatalf("call %d: %s: %d, %s, want %d, %s", i+1, s.what, err, tell(d), s.err, s.want)
		}
	}
}

// filled has as many files as there may be, f10 to f49, each of one byte; those with an even number are synced.
func filled(t *testing.T, room int) *disk.Disk {
	t.Helper()
	d := made(t, room)
	for i := range disk.MaxFiles {
		name := fmt.Sprint("f", 10+i)
		if err := d.Append(name, "x"); err != api.OK {
			t.Fatalf("Append of file %d: %d", i+1, err)
		}
		if i%2 == 0 {
			d.Sync(name)
		}
	}
	return d
}

func noNames() []string {
	return []string{"", " ", "a b", "a/b", "a\n", "\x00", "a\xff", "\x80", "a\"", "a=", "\u009f", strings.Repeat("a", 33), strings.Repeat("é", 33)}
}

func names() []string {
	return []string{"a", "Z", "0", "-", "_", ".", "..", "seg-1", "é", "\u00a0", "語", strings.Repeat("a", 32), strings.Repeat("é", 32)}
}

// D1, D3: the chapter's examples.
func TestExamples(t *testing.T) {
	for _, c := range []struct {
		keep []int
		want string
	}{{nil, "xy"}, {[]int{5}, "xyz"}} {
		d := made(t, 100)
		d.Append("a", "xy")
		d.Sync("a")
		d.Append("a", "z")
		d.Crash(c.keep)
		if s, err := d.Read("a"); s != c.want || err != api.OK {
			t.Errorf("Read behind Crash(%v) = %q, %d, want %q", c.keep, s, err, c.want)
		}
	}
}

// D1: New takes a room of 1 to 2^30, and its disk has no file.
func TestNew(t *testing.T) {
	for room, want := range map[int]api.Errno{
		math.MinInt: api.ErrArg, -1 << 30: api.ErrArg, -1: api.ErrArg, 0: api.ErrArg,
		1: api.OK, 2: api.OK, 1000: api.OK, 1<<30 - 1: api.OK, 1 << 30: api.OK,
		1<<30 + 1: api.ErrArg, 1 << 31: api.ErrArg, 1<<32 + 1: api.ErrArg, math.MaxInt: api.ErrArg,
	} {
		d, err := disk.New(room)
		if err != want || (d != nil) != (want == api.OK) {
			t.Errorf("New(%d) = %v, %d, want %d", room, d, err, want)
		}
		if d != nil && (len(d.List()) != 0 || d.Used() != 0) {
			t.Errorf("New(%d) has %q, %d bytes", room, d.List(), d.Used())
		}
	}
}

// D1: disks that New made have nothing in common.
func TestNewDisksAreTheirOwn(t *testing.T) {
	a, b := made(t, 10), made(t, 10)
	a.Append("a", "x")
	if tell(a) != "a=x/0 1" || tell(b) != "0" {
		t.Errorf("one of two disks was written: %s; %s", tell(a), tell(b))
	}
}

// D1: Append makes a file, and puts bytes behind those that are there.
func TestAppend(t *testing.T) {
	run(t, made(t, 100),
		write("b", "xy", api.OK, "b=xy/0 2"),
		write("b", "", api.OK, "b=xy/0 2"),
		write("b", "z", api.OK, "b=xyz/0 3"),
		write("a", "", api.OK, "a=/0 b=xyz/0 3"),
		write("a", "", api.OK, "a=/0 b=xyz/0 3"),
		write("a", "1", api.OK, "a=1/0 b=xyz/0 4"),
		write("c", "\x00\xff\n", api.OK, "a=1/0 b=xyz/0 c=\x00\xff\n/0 7"),
		write("b", "xyz", api.OK, "a=1/0 b=xyzxyz/0 c=\x00\xff\n/0 10"),
	)
}

// D1: every name may be a file's, and nothing else.
func TestAppendOfNames(t *testing.T) {
	for _, name := range names() {
		run(t, made(t, 10), write(name, "x", api.OK, name+"=x/0 1"), sync(name, api.OK, name+"=x/1 1"))
	}
	for _, name := range noNames() {
		d := made(t, 10)
		run(t, d, write("a", "x", api.OK, "a=x/0 1"), write(name, "x", api.ErrArg, "a=x/0 1"), write(name, "", api.ErrArg, "a=x/0 1"))
		if s, err := d.Read(name); s != "" || err != api.ErrNone || d.Synced(name) != 0 {
			t.Errorf("Read(%q) = %q, %d; Synced = %d", name, s, err, d.Synced(name))
		}
	}
}

// D1: names that differ in one byte alone are of two files.
func TestNamesAreBytes(t *testing.T) {
	run(t, made(t, 10),
		write("a", "1", api.OK, "a=1/0 1"),
		write("A", "2", api.OK, "A=2/0 a=1/0 2"),
		write("e\u0301", "3", api.OK, "A=2/0 a=1/0 e\u0301=3/0 3"),
		write("\u00e9", "4", api.OK, "A=2/0 a=1/0 e\u0301=3/0 \u00e9=4/0 4"),
		sync("a", api.OK, "A=2/0 a=1/1 e\u0301=3/0 \u00e9=4/0 4"),
		remove("A", api.OK, "a=1/1 e\u0301=3/0 \u00e9=4/0 3"),
		remove("\u00e9", api.OK, "a=1/1 e\u0301=3/0 2"),
	)
}

// D1: just as many bytes as there is room for are taken, and not one more, in whatever files they are.
func TestAppendOfRoom(t *testing.T) {
	run(t, made(t, 1),
		write("a", "xy", api.ErrFull, "0"),
		write("a", "x", api.OK, "a=x/0 1"),
		write("a", "y", api.ErrFull, "a=x/0 1"),
		write("b", "y", api.ErrFull, "a=x/0 1"),
		write("b", "", api.OK, "a=x/0 b=/0 1"),
		write("a", "", api.OK, "a=x/0 b=/0 1"),
	)
	run(t, made(t, 10),
		write("a", "1234", api.OK, "a=1234/0 4"),
		sync("a", api.OK, "a=1234/4 4"),
		write("b", "1234567", api.ErrFull, "a=1234/4 4"),
		write("a", "1234567", api.ErrFull, "a=1234/4 4"),
		write("b", "123", api.OK, "a=1234/4 b=123/0 7"),
		write("b", "4567", api.ErrFull, "a=1234/4 b=123/0 7"),
		write("a", "567", api.OK, "a=1234567/4 b=123/0 10"),
		write("c", "x", api.ErrFull, "a=1234567/4 b=123/0 10"),
		crash("a=123456/6 b=123/3 9", 2, 3),
		write("c", "xy", api.ErrFull, "a=123456/6 b=123/3 9"),
		write("c", "x", api.OK, "a=123456/6 b=123/3 c=x/0 10"),
	)
}

// D1: the room of a greater disk is counted as that of a small one, and a disk of the greatest room takes bytes.
func TestAppendOfGreatRoom(t *testing.T) {
	const room, part = 1 << 24, 1 << 20
	d := made(t, room)
	piece := strings.Repeat("x", part)
	for i := range room / part {
		if err := d.Append(fmt.Sprint("f", i/4), piece); err != api.OK || d.Used() != (i+1)*part {
			t.Fatalf("Append %d: %d; Used = %d", i+1, err, d.Used())
		}
	}
	if err := d.Append("f0", "x"); err != api.ErrFull || d.Append("f0", "") != api.OK || d.Used() != room {
		t.Errorf("Append of one more: %d; Used = %d", err, d.Used())
	}
	great := made(t, 1<<30)
	if err := great.Append("a", piece); err != api.OK || great.Used() != part {
		t.Errorf("Append to a disk of 2^30: %d; Used = %d", err, great.Used())
	}
}

// P1: many small pieces are taken in good time.
func TestAppendOfManyPieces(t *testing.T) {
	const many = 1 << 18
	d := made(t, 1<<30)
	for range many {
		d.Append("a", "0123456789abcdef")
	}
	if d.Used() != 16*many || d.Sync("a") != api.OK || d.Synced("a") != 16*many {
		t.Errorf("Used = %d; Synced = %d", d.Used(), d.Synced("a"))
	}
}

// D1: there may be 40 files and no 41st; those that are there can be written.
func TestAppendOfFiles(t *testing.T) {
	d := filled(t, 1000)
	if disk.MaxFiles != 40 || len(d.List()) != 40 || d.Used() != 40 {
		t.Fatalf("MaxFiles = %d; %d files, %d bytes", disk.MaxFiles, len(d.List()), d.Used())
	}
	before := tell(d)
	for _, s := range []string{"", "x"} {
		if err := d.Append("g", s); err != api.ErrLong || tell(d) != before {
			t.Errorf("Append of a 41st file: %d; %s", err, tell(d))
		}
	}
	for _, name := range []string{"f10", "f30", "f49"} {
		if err := d.Append(name, "y"); err != api.OK {
			t.Errorf("Append of %s: %d", name, err)
		}
	}
	if len(d.List()) != 40 || d.Used() != 43 {
		t.Errorf("%d files, %d bytes", len(d.List()), d.Used())
	}
}

// D1, D2: a file that goes, by Delete or Rename, makes room for another one, and no crash does.
func TestFilesThatGo(t *testing.T) {
	for _, c := range []struct {
		what string
		do   func(d *disk.Disk) api.Errno
		want api.Errno
	}{
		{"Delete", func(d *disk.Disk) api.Errno { return d.Delete("f20") }, api.OK},
		{"Rename to another one", func(d *disk.Disk) api.Errno { return d.Rename("f20", "f21") }, api.OK},
		{"Rename to a new name", func(d *disk.Disk) api.Errno { return d.Rename("f20", "h") }, api.ErrLong},
		{"Rename to itself", func(d *disk.Disk) api.Errno { return d.Rename("f20", "f20") }, api.ErrLong},
		{"Crash", func(d *disk.Disk) api.Errno { d.Crash(nil); return api.OK }, api.ErrLong},
	} {
		d := filled(t, 1000)
		if err := c.do(d); err != api.OK {
			t.Errorf("%s: %d", c.what, err)
		}
		if err := d.Append("g", "x"); err != c.want || len(d.List()) != 40 {
			t.Errorf("Append of a file behind %s: %d, want %d; %d files", c.what, err, c.want, len(d.List()))
		}
		if err := d.Append("i", "x"); err != api.ErrLong {
			t.Errorf("Append of one file more behind %s: %d", c.what, err)
		}
	}
}

// D1, P2: of several errors of Append the one that is named first is told.
func TestAppendTellsTheFirstError(t *testing.T) {
	full := filled(t, 40)
	before := tell(full)
	for _, c := range []struct {
		name, s string
		want    api.Errno
	}{
		{"a b", "x", api.ErrArg},
		{"", "", api.ErrArg},
		{"g", "x", api.ErrLong},
		{"g", "", api.ErrLong},
		{"f10", "x", api.ErrFull},
		{"f10", "", api.OK},
	} {
		if err := full.Append(c.name, c.s); err != c.want || tell(full) != before {
			t.Errorf("Append(%q, %q) = %d, want %d; %s", c.name, c.s, err, c.want, tell(full))
		}
	}
	small := made(t, 1)
	if err := small.Append("a b", "xy"); err != api.ErrArg || tell(small) != "0" {
		t.Errorf("Append of no name, of too much = %d; %s", err, tell(small))
	}
}

// D1: Sync, Read and Synced of a file that is there, and of none.
func TestSync(t *testing.T) {
	d := made(t, 100)
	run(t, d,
		sync("a", api.ErrNone, "0"),
		write("a", "xy", api.OK, "a=xy/0 2"),
		write("b", "z", api.OK, "a=xy/0 b=z/0 3"),
		sync("a", api.OK, "a=xy/2 b=z/0 3"),
		sync("a", api.OK, "a=xy/2 b=z/0 3"),
		write("a", "1", api.OK, "a=xy1/2 b=z/0 4"),
		write("a", "2", api.OK, "a=xy12/2 b=z/0 5"),
		sync("c", api.ErrNone, "a=xy12/2 b=z/0 5"),
		sync("", api.ErrNone, "a=xy12/2 b=z/0 5"),
		sync("a b", api.ErrNone, "a=xy12/2 b=z/0 5"),
		sync("a", api.OK, "a=xy12/4 b=z/0 5"),
		write("c", "", api.OK, "a=xy12/4 b=z/0 c=/0 5"),
		sync("c", api.OK, "a=xy12/4 b=z/0 c=/0 5"),
	)
	for _, name := range append(noNames(), "d", "A", "aa") {
		if s, err := d.Read(name); s != "" || err != api.ErrNone {
			t.Errorf("Read(%q) = %q, %d", name, s, err)
		}
		if n := d.Synced(name); n != 0 {
			t.Errorf("Synced(%q) = %d", name, n)
		}
		if err := d.Sync(name); err != api.ErrNone {
			t.Errorf("Sync(%q) = %d", name, err)
		}
	}
	if tell(d) != "a=xy12/4 b=z/0 c=/0 5" {
		t.Errorf("asking made %s", tell(d))
	}
}

// D1: List tells the names by their bytes, in whatever order the files came.
func TestList(t *testing.T) {
	sorted := []string{"-", ".", "..", "0", "10", "9", "A", "Z", "_", "a", "a-", "a.b", "a0", "aA", "aa", "b", "\u00a0", "é", "語", "\U0001f600"}
	for turn := range len(sorted) {
		d := made(t, 100)
		for i := range sorted {
			d.Append(sorted[(turn+i*7)%len(sorted)], "x")
		}
		if l := d.List(); !slices.Equal(l, sorted) || d.Used() != len(sorted) {
			t.Fatalf("List() = %q, want %q", l, sorted)
		}
	}
}

// P3: a list that was answered is the caller's.
func TestListsAreNew(t *testing.T) {
	d := made(t, 10)
	d.Append("a", "x")
	d.Append("b", "y")
	first := d.List()
	first[0], first[1] = "zz", "zz"
	_ = append(first[:1], "more")
	if l := d.List(); !slices.Equal(l, []string{"a", "b"}) || tell(d) != "a=x/0 b=y/0 2" {
		t.Errorf("List() = %q; %s", l, tell(d))
	}
	second := d.List()
	d.Append("0", "")
	d.Delete("a")
	if !slices.Equal(second, []string{"a", "b"}) {
		t.Errorf("a list became %q", second)
	}
}

// D1: a text that was read stays as it is, whatever is written behind it.
func TestReadTextsStay(t *testing.T) {
	d := made(t, 100)
	d.Append("a", "xy")
	d.Sync("a")
	d.Append("a", "12")
	s, _ := d.Read("a")
	d.Crash(nil)
	d.Append("a", "34")
	again, _ := d.Read("a")
	if s != "xy12" || again != "xy34" {
		t.Errorf("Read = %q, then %q", s, again)
	}
}

// D2: Rename of a file to a new name, to another one's, to its own, to no name; of none.
func TestRename(t *testing.T) {
	run(t, made(t, 100),
		rename("a", "b", api.ErrNone, "0"),
		rename("a", "a", api.ErrNone, "0"),
		write("a", "xy", api.OK, "a=xy/0 2"),
		sync("a", api.OK, "a=xy/2 2"),
		write("a", "z", api.OK, "a=xyz/2 3"),
		rename("a", "a", api.OK, "a=xyz/2 3"),
		rename("a", "b", api.OK, "b=xyz/2 3"),
		rename("a", "b", api.ErrNone, "b=xyz/2 3"),
		write("a", "1234", api.OK, "a=1234/0 b=xyz/2 7"),
		rename("b", "a", api.OK, "a=xyz/2 3"),
		sync("b", api.ErrNone, "a=xyz/2 3"),
		write("c", "", api.OK, "a=xyz/2 c=/0 3"),
		rename("c", "a", api.OK, "a=/0 0"),
		write("a", "x", api.OK, "a=x/0 1"),
	)
}

// D2, P2: no name is taken, and that there is no file is told first.
func TestRenameToNoName(t *testing.T) {
	for _, to := range noNames() {
		run(t, made(t, 10),
			write("a", "x", api.OK, "a=x/0 1"),
			rename("a", to, api.ErrArg, "a=x/0 1"),
			rename("b", to, api.ErrNone, "a=x/0 1"),
			rename(to, "a", api.ErrNone, "a=x/0 1"),
			rename(to, to, api.ErrNone, "a=x/0 1"),
		)
	}
	for _, to := range names() {
		run(t, made(t, 10), write("from", "x", api.OK, "from=x/0 1"), rename("from", to, api.OK, to+"=x/0 1"))
	}
}

// D2: Delete of a file and of none; it makes room.
func TestDelete(t *testing.T) {
	run(t, made(t, 5),
		remove("a", api.ErrNone, "0"),
		write("a", "xyz", api.OK, "a=xyz/0 3"),
		sync("a", api.OK, "a=xyz/3 3"),
		write("b", "12", api.OK, "a=xyz/3 b=12/0 5"),
		write("c", "x", api.ErrFull, "a=xyz/3 b=12/0 5"),
		remove("c", api.ErrNone, "a=xyz/3 b=12/0 5"),
		remove("", api.ErrNone, "a=xyz/3 b=12/0 5"),
		remove("a b", api.ErrNone, "a=xyz/3 b=12/0 5"),
		remove("a", api.OK, "b=12/0 2"),
		remove("a", api.ErrNone, "b=12/0 2"),
		write("c", "1234", api.ErrFull, "b=12/0 2"),
		write("c", "123", api.OK, "b=12/0 c=123/0 5"),
		remove("c", api.OK, "b=12/0 2"),
		write("a", "1", api.OK, "a=1/0 b=12/0 3"),
	)
}

// D2: what a Rename puts in another file's place makes room, too.
func TestRenameMakesRoom(t *testing.T) {
	run(t, made(t, 5),
		write("a", "123", api.OK, "a=123/0 3"),
		write("b", "45", api.OK, "a=123/0 b=45/0 5"),
		rename("b", "a", api.OK, "a=45/0 2"),
		write("a", "1234", api.ErrFull, "a=45/0 2"),
		write("a", "123", api.OK, "a=45123/0 5"),
	)
}

// D2: a crash undoes neither Rename nor Delete, synced or not.
func TestRenameAndDeleteAreDoneAtOnce(t *testing.T) {
	run(t, made(t, 100),
		write("a", "old", api.OK, "a=old/0 3"),
		sync("a", api.OK, "a=old/3 3"),
		write("b", "new", api.OK, "a=old/3 b=new/0 6"),
		rename("b", "a", api.OK, "a=new/0 3"),
		crash("a=n/1 1", 1),
		write("c", "x", api.OK, "a=n/1 c=x/0 2"),
		sync("c", api.OK, "a=n/1 c=x/1 2"),
		remove("c", api.OK, "a=n/1 1"),
		rename("a", "d", api.OK, "d=n/1 1"),
		crash("d=n/1 1", 9, 9),
		crash("d=n/1 1"),
	)
}

// D3: what a crash leaves of three files, by the numbers it is given.
func TestCrash(t *testing.T) {
	for _, c := range []struct {
		keep []int
		want string
	}{
		{nil, "a=12/2 b=/0 c=xyz/3 5"},
		{[]int{}, "a=12/2 b=/0 c=xyz/3 5"},
		{[]int{0, 0, 0}, "a=12/2 b=/0 c=xyz/3 5"},
		{[]int{1}, "a=123/3 b=/0 c=xyz/3 6"},
		{[]int{3}, "a=12345/5 b=/0 c=xyz/3 8"},
		{[]int{4}, "a=12345/5 b=/0 c=xyz/3 8"},
		{[]int{0, 1}, "a=12/2 b=6/1 c=xyz/3 6"},
		{[]int{2, 1}, "a=1234/4 b=6/1 c=xyz/3 8"},
		{[]int{-1, 2}, "a=12/2 b=67/2 c=xyz/3 7"},
		{[]int{1, -1, 1}, "a=123/3 b=/0 c=xyz/3 6"},
		{[]int{math.MinInt, math.MinInt, math.MinInt}, "a=12/2 b=/0 c=xyz/3 5"},
		{[]int{math.MaxInt, math.MaxInt, math.MaxInt}, "a=12345/5 b=67/2 c=xyz/3 10"},
		{[]int{math.MaxInt - 1, math.MaxInt - 2, 1}, "a=12345/5 b=67/2 c=xyz/3 10"},
		{[]int{1, 1, 1, 1, 1, 1}, "a=123/3 b=6/1 c=xyz/3 7"},
		{[]int{0, 0, 0, 9, 9}, "a=12/2 b=/0 c=xyz/3 5"},
		{make([]int, 1<<20), "a=12/2 b=/0 c=xyz/3 5"},
	} {
		d := made(t, 100)
		for _, name := range []string{"c", "a", "b"} {
			d.Append(name, map[string]string{"a": "12", "b": "", "c": "xyz"}[name])
			d.Sync(name)
		}
		d.Append("b", "67")
		d.Append("a", "345")
		kept := slices.Clone(c.keep)
		if d.Crash(c.keep); tell(d) != c.want {
			t.Errorf("Crash(%.100v) leaves %s, want %s", c.keep, tell(d), c.want)
		}
		if !slices.Equal(c.keep, kept) {
			t.Errorf("Crash wrote into %.100v: %.100v", kept, c.keep)
		}
		if d.Crash(c.keep); tell(d) != c.want {
			t.Errorf("a second Crash(%.100v) leaves %s, want %s", c.keep, tell(d), c.want)
		}
	}
}

// D3: the i-th file is that of List, whatever the order in which files came, and went.
func TestCrashGoesByList(t *testing.T) {
	run(t, made(t, 100),
		write("c", "333", api.OK, "c=333/0 3"),
		write("a", "111", api.OK, "a=111/0 c=333/0 6"),
		write("d", "444", api.OK, "a=111/0 c=333/0 d=444/0 9"),
		write("b", "222", api.OK, "a=111/0 b=222/0 c=333/0 d=444/0 12"),
		rename("a", "e", api.OK, "b=222/0 c=333/0 d=444/0 e=111/0 12"),
		remove("c", api.OK, "b=222/0 d=444/0 e=111/0 9"),
		crash("b=2/1 d=44/2 e=111/3 6", 1, 2, 3),
	)
}

// D3: what lies behind the numbers' length is not read, nor written.
func TestCrashLeavesWhatIsBehind(t *testing.T) {
	all := []int{1, 9, 9}
	run(t, made(t, 10), write("a", "xy", api.OK, "a=xy/0 2"), write("b", "xy", api.OK, "a=xy/0 b=xy/0 4"), crash("a=x/1 b=/0 1", all[:1]...))
	if !slices.Equal(all, []int{1, 9, 9}) {
		t.Errorf("the numbers became %v", all)
	}
}

// D3: what a first crash kept is synced; a second one takes only what came behind it.
func TestSecondCrash(t *testing.T) {
	run(t, made(t, 100),
		write("a", "12345", api.OK, "a=12345/0 5"),
		crash("a=123/3 3", 3),
		crash("a=123/3 3"),
		crash("a=123/3 3", 2),
		write("a", "abc", api.OK, "a=123abc/3 6"),
		crash("a=123a/4 4", 1),
		write("a", "xyz", api.OK, "a=123axyz/4 7"),
		sync("a", api.OK, "a=123axyz/7 7"),
		crash("a=123axyz/7 7", -1),
		write("b", "", api.OK, "a=123axyz/7 b=/0 7"),
		crash("a=123axyz/7 b=/0 7"),
	)
}

// D3: a crash of a disk without files.
func TestCrashOfNothing(t *testing.T) {
	run(t, made(t, 1), crash("0"), crash("0", 1, 2, 3), write("a", "x", api.OK, "a=x/0 1"))
}

// D3: a clone is just like the first, in its room, files and synced bytes.
func TestClone(t *testing.T) {
	d := made(t, 8)
	d.Append("a", "xy")
	d.Sync("a")
	d.Append("a", "z")
	d.Append("b", "")
	c := d.Clone()
	if c == d || tell(c) != "a=xyz/2 b=/0 3" || tell(d) != tell(c) {
		t.Fatalf("Clone() is %s of %s", tell(c), tell(d))
	}
	run(t, c,
		write("a", "123456", api.ErrFull, "a=xyz/2 b=/0 3"),
		write("a", "12345", api.OK, "a=xyz12345/2 b=/0 8"),
		crash("a=xyz/3 b=/0 3", 1),
	)
	if c := filled(t, 1000).Clone(); c.Append("g", "x") != api.ErrLong {
		t.Error("a clone of a disk with 40 files takes one more")
	}
	if c := made(t, 5).Clone(); tell(c) != "0" || c.Append("a", "123456") != api.ErrFull || c.Append("a", "12345") != api.OK {
		t.Errorf("a clone of a disk without files is %s", tell(c))
	}
}

// changes are calls of which each changes a disk with a=xyz/2 and b=1/0.
func changes() []func(d *disk.Disk) {
	return []func(d *disk.Disk){
		func(d *disk.Disk) { d.Append("a", "1") },
		func(d *disk.Disk) { d.Append("a", strings.Repeat("1", 50)) },
		func(d *disk.Disk) { d.Append("c", "1") },
		func(d *disk.Disk) { d.Append("c", "") },
		func(d *disk.Disk) { d.Sync("a") },
		func(d *disk.Disk) { d.Sync("b") },
		func(d *disk.Disk) { d.Rename("a", "b") },
		func(d *disk.Disk) { d.Rename("a", "c") },
		func(d *disk.Disk) { d.Delete("a") },
		func(d *disk.Disk) { d.Crash(nil) },
		func(d *disk.Disk) { d.Crash([]int{1, 1}) },
		func(d *disk.Disk) { d.Crash(nil); d.Append("a", "0") },
	}
}

// D3: what is done to a clone is not seen in the first, nor the other way, nor in another clone.
func TestCloneSharesNothing(t *testing.T) {
	const like = "a=xyz/2 b=1/0 4"
	for i, change := range changes() {
		for _, first := range []bool{true, false} {
			d := made(t, 100)
			run(t, d, write("a", "xy", api.OK, "a=xy/0 2"), sync("a", api.OK, "a=xy/2 2"), write("a", "z", api.OK, "a=xyz/2 3"), write("b", "1", api.OK, like))
			c, other := d.Clone(), d.Clone()
			changed, left := c, d
			if first {
				changed, left = d, c
			}
			change(changed)
			if tell(changed) == like || tell(left) != like || tell(other) != like {
				t.Errorf("change %d, of the first: %t: %s; the others: %s; %s", i, first, tell(changed), tell(left), tell(other))
			}
		}
	}
}

// D3: bytes that are written behind the same beginning, of a disk and its clones, are each one's own.
func TestClonesGrowApart(t *testing.T) {
	d := made(t, 1000)
	for _, s := range []string{"0123456789", "abc", "d", "e"} {
		d.Append("a", s)
	}
	disks := []*disk.Disk{d, d.Clone(), d.Clone()}
	disks = append(disks, disks[2].Clone())
	for i, one := range disks {
		one.Append("a", fmt.Sprint(i, i, i))
	}
	for i, one := range disks {
		want := "0123456789abcde" + fmt.Sprint(i, i, i)
		if s, err := one.Read("a"); s != want || err != api.OK {
			t.Errorf("disk %d has %q, want %q", i, s, want)
		}
	}
}

// D2, D3: a file that is made anew under an old name shares nothing with one that went, or is called otherwise now.
func TestFilesShareNothing(t *testing.T) {
	run(t, made(t, 100),
		write("a", "12", api.OK, "a=12/0 2"),
		write("a", "3", api.OK, "a=123/0 3"),
		rename("a", "b", api.OK, "b=123/0 3"),
		write("a", "xyz", api.OK, "a=xyz/0 b=123/0 6"),
		write("b", "4", api.OK, "a=xyz/0 b=1234/0 7"),
		write("a", "w", api.OK, "a=xyzw/0 b=1234/0 8"),
		rename("b", "a", api.OK, "a=1234/0 4"),
		write("b", "q", api.OK, "a=1234/0 b=q/0 5"),
		write("a", "5", api.OK, "a=12345/0 b=q/0 6"),
	)
}

// D4, P2: what errs changes nothing.
func TestErrorsChangeNothing(t *testing.T) {
	d := filled(t, 50)
	d.Append("f10", "123456789")
	before := tell(d)
	for what, err := range map[string]api.Errno{
		"Append of no name":         d.Append("a b", "x"),
		"Append of a 41st file":     d.Append("g", ""),
		"Append of too many bytes":  d.Append("f11", "xy"),
		"Append of far too many":    d.Append("f10", strings.Repeat("x", 1<<16)),
		"Sync of none":              d.Sync("g"),
		"Rename of none":            d.Rename("g", "f10"),
		"Rename of none to itself":  d.Rename("g", "g"),
		"Rename to no name":         d.Rename("f10", ""),
		"Rename of none to no name": d.Rename("g", ""),
		"Delete of none":            d.Delete("g"),
	} {
		if err == api.OK {
			t.Errorf("%s errs not", what)
		}
	}
	if _, err := d.Read("g"); err != api.ErrNone || tell(d) != before {
		t.Errorf("errors made %s of %s", tell(d), before)
	}
	d.Append("f11", "x")
	if tell(d) == before || d.Used() != 50 {
		t.Errorf("the last byte was not taken: %s", tell(d))
	}
}

// P1: a Disk that New did not make has no room, and its calls do not panic.
func TestDiskWithoutRoom(t *testing.T) {
	var d disk.Disk
	run(t, &d,
		crash("0", 1),
		sync("a", api.ErrNone, "0"),
		rename("a", "b", api.ErrNone, "0"),
		remove("a", api.ErrNone, "0"),
		write("a b", "x", api.ErrArg, "0"),
		write("a", "x", api.ErrFull, "0"),
	)
	if c := d.Clone(); tell(c) != "0" || c.Append("a", "x") != api.ErrFull {
		t.Errorf("its clone is %s", tell(c))
	}
	run(t, &d, write("a", "", api.OK, "a=/0 0"), crash("a=/0 0"), rename("a", "b", api.OK, "b=/0 0"))
}

// P4: two disks with which the same was done answer the same, call by call.
func TestSameCallsSameAnswers(t *testing.T) {
	want := ""
	for i := range 20 {
		d := filled(t, 100)
		d.Crash([]int{0, 1, 0, -1, 5})
		d.Rename("f30", "f11")
		d.Append("f49", "more")
		d.Crash([]int{1, 1, 1, 1, 1, 1, 1, 1})
		got := tell(d) + fmt.Sprint(d.List(), d.Clone().List())
		if i > 0 && got != want {
			t.Fatalf("%s, then %s", want, got)
		}
		want = got
	}
}
