package manifest_test

import (
	"fmt"
	"math"
	"slices"
	"strings"
	"testing"

	"bucketline/api"
	"bucketline/disk"
	"bucketline/manifest"
	"bucketline/segment"
)

const plenty = 1 << 20

func made(t testing.TB, room int) *disk.Disk {
	t.Helper()
	d, err := disk.New(room)
	if d == nil || err != api.OK {
		t.Fatalf("New(%d) = %v, %d", room, d, err)
	}
	return d
}

// tell is all that can be asked of a disk: each file as name=bytes/synced.
func tell(d *disk.Disk) string {
	var parts []string
	for _, name := range d.List() {
		s, err := d.Read(name)
		if err != api.OK {
			return fmt.Sprintf("Read(%q): %d", name, err)
		}
		parts = append(parts, fmt.Sprintf("%s=%q/%d", name, s, d.Synced(name)))
	}
	return strings.Join(parts, " ")
}

// store puts bytes behind those of a file.
func store(t testing.TB, d *disk.Disk, name, s string) {
	t.Helper()
	if err := d.Append(name, s); err != api.OK {
		t.Fatalf("Append(%q, %.60q): %d", name, s, err)
	}
}

func synced(t testing.TB, d *disk.Disk, name, s string) {
	t.Helper()
	store(t, d, name, s)
	if err := d.Sync(name); err != api.OK {
		t.Fatalf("Sync(%q): %d", name, err)
	}
}

// holding is a disk with a file, all of it synced.
func holding(t testing.TB, name, s string) *disk.Disk {
	t.Helper()
	d := made(t, plenty)
	synced(t, d, name, s)
	return d
}

// crowd puts files without bytes on a disk, up to so many files in all.
func crowd(t testing.TB, d *disk.Disk, files int) {
	t.Helper()
	for i := 10; len(d.List()) < files; i++ {
		store(t, d, fmt.Sprint("f", i), "")
	}
}

// whole tells a file, all of it synced, as tell does.
func whole(name, s string) string {
	return fmt.Sprintf("%s=%q/%d", name, s, len(s))
}

// checkDisk holds a disk, and an error that a call told, against what they must be.
func checkDisk(t testing.TB, what string, d *disk.Disk, want string, err, wantErr api.Errno) {
	t.Helper()
	if err != wantErr || tell(d) != want {
		t.Errorf("%s: %d, %.300s, want %d, %.300s", what, err, tell(d), wantErr, want)
	}
}

func of(next int, segs ...int) manifest.Manifest {
	return manifest.Manifest{Next: next, Segs: segs}
}

// upTo are the numbers from 1 on.
func upTo(count int) []int {
	var l []int
	for i := range count {
		l = append(l, i+1)
	}
	return l
}

// rightOnes reach each edge.
func rightOnes() []manifest.Manifest {
	return []manifest.Manifest{
		of(1), of(2), of(127), of(128), of(300), of(1<<30 - 1), of(1 << 30),
		of(2, 1), of(3, 1), of(3, 2), of(3, 1, 2), of(9, 8), of(9, 1, 8), of(9, 1, 2, 3, 4, 5, 6, 7, 8),
		of(300, 1, 2, 299), of(20000, 127, 128, 16383, 16384), of(1<<30, 1), of(1<<30, 1<<30-1), of(1<<30, 1, 1<<30-1), of(1<<30, 1<<30-2, 1<<30-1),
		of(30, upTo(29)...), of(31, upTo(29)...), of(31, upTo(30)...), of(32, upTo(30)...), of(1<<30, upTo(30)...),
	}
}

// wrongOnes miss each edge by one, and by much.
func wrongOnes() []manifest.Manifest {
	out := []manifest.Manifest{
		of(0), of(-1), of(-128), of(-1 << 30), of(math.MinInt), of(1<<30 + 1), of(1 << 31), of(1<<32 + 5), of(1<<40 + 5), of(math.MaxInt),
		of(0, 1), of(-5, 1), of(1<<30+1, 1), of(1<<30+1, 1, 2, 3), of(math.MaxInt, 1), of(math.MinInt, 1), of(0, -1), of(-5, -6),
		of(1, 1), of(1, 0), of(1, 2), of(2, 0), of(2, -1), of(2, 2), of(2, 3),
		of(5, 0), of(5, -1), of(5, 5), of(5, 6), of(5, math.MinInt), of(5, math.MaxInt), of(5, 1<<32+1), of(1<<30, 1<<30), of(1<<30, 1<<30+1),
		of(5, 0, 1), of(5, -1, 1), of(5, 1, 0), of(5, 1, -1), of(5, 1, math.MinInt), of(5, 1, math.MaxInt), of(5, 1, 5), of(5, 1, 6), of(5, 5, 1), of(5, 6, 1),
		of(5, 1, 1), of(5, 2, 1), of(5, 4, 4), of(5, 4, 3), of(5, 1, 2, 2), of(5, 1, 3, 2), of(5, 2, 1, 3), of(5, 2, 2, 3), of(5, 1, 3, 2, 4), of(5, 1, 1, 1, 1),
		of(99, upTo(31)...), of(32, upTo(31)...), of(1<<30, upTo(31)...), of(1<<30, upTo(5000)...), of(5, upTo(31)...),
		of(99, make([]int, 30)...), of(99, make([]int, 31)...), of(1, make([]int, 1)...),
	}
	for place := range 30 {
		for _, seg := range []int{0, -1, place, place + 2, 31, 32, math.MaxInt} {
			l := upTo(30)
			l[place] = seg
			if !slices.Equal(l, upTo(30)) && (place < 29 || seg != 31) {
				out = append(out, of(32-place%2, l...))
			}
		}
	}
	return out
}

// A1, A2: the chapter's examples.
func TestExamples(t *testing.T) {
	d := made(t, 100)
	if m, err := manifest.Load(d); m.Next != 1 || len(m.Segs) != 0 || err != api.OK {
		t.Errorf("Load of an empty disk: %v, %d", m, err)
	}
	three, two := manifest.Raise(d, 3), manifest.Raise(d, 2)
	if three != api.OK || two != api.ErrEpoch || manifest.Epoch(d) != 3 {
		t.Errorf("Raise: %d, %d; Epoch: %d", three, two, manifest.Epoch(d))
	}
	if manifest.File != "manifest" || manifest.Mark != "epoch" {
		t.Errorf("%q, %q", manifest.File, manifest.Mark)
	}
}

// A1: what is right.
func TestRight(t *testing.T) {
	for _, m := range rightOnes() {
		if !manifest.Right(m) {
			t.Errorf("%v is not right", m)
		}
	}
	if !manifest.Right(manifest.Manifest{Next: 1, Segs: []int{}}) {
		t.Error("a list of nothing is not right")
	}
	for _, m := range wrongOnes() {
		if manifest.Right(m) {
			t.Errorf("%v is right", m)
		}
	}
	if manifest.Right(manifest.Manifest{}) {
		t.Error("a manifest of nothing is right")
	}
}

// A1: all short manifests, against the words.
func TestRightOfShortOnes(t *testing.T) {
	for next := -2; next <= 6; next++ {
		for a := -2; a <= 7; a++ {
			for b := -2; b <= 7; b++ {
				for c := -2; c <= 7; c++ {
					for _, l := range [][]int{nil, {a}, {a, b}, {a, b, c}} {
						m := of(next, l...)
						if got := manifest.Right(m); got != refRight(m) {
							t.Fatalf("Right(%v) = %t", m, got)
						}
					}
				}
			}
		}
	}
}

// A1, A3: Save makes the file of the one frame, and it is synced.
func TestSave(t *testing.T) {
	for _, m := range rightOnes() {
		d := made(t, plenty)
		checkDisk(t, fmt.Sprint("Save of ", m), d, whole("manifest", bytesOf(m)), manifest.Save(d, m), api.OK)
		checkLoad(t, "saved", d, m, api.OK)
		d.Crash(nil)
		checkDisk(t, "a crash", d, whole("manifest", bytesOf(m)), api.OK, api.OK)
		checkLoad(t, "behind a crash", d, m, api.OK)
	}
}

// A1: the bytes of a frame, byte by byte.
func TestSavedBytes(t *testing.T) {
	for want, m := range map[string]manifest.Manifest{
		"\x01\x00":                     of(1),
		"\x02\x01\x01":                 of(2, 1),
		"\xac\x02\x03\x01\x02\xab\x02": of(300, 1, 2, 299),
		"\x80\x80\x80\x80\x04\x01\xff\xff\xff\xff\x03": of(1<<30, 1<<30-1),
	} {
		d := made(t, plenty)
		err := manifest.Save(d, m)
		s, _ := d.Read("manifest")
		if err != api.OK || len(s) != 8+len(want) || s[:4] != "\x00\x00\x00"+string([]byte{byte(len(want))}) || s[8:] != want {
			t.Errorf("Save of %v: %d, % x", m, err, s)
		}
	}
}

// A1, A3: what is saved is in the place of what was there, whatever that was, and however much of it was synced.
func TestSaveInThePlaceOfAnother(t *testing.T) {
	for _, old := range append(wrongFiles(), "", bytesOf(of(1)), bytesOf(of(9, 1, 8)), bytesOf(of(31, upTo(30)...))) {
		for _, m := range []manifest.Manifest{of(1), of(9, 1, 8), of(31, upTo(30)...)} {
			for _, half := range []int{0, len(old) / 2, len(old)} {
				d := made(t, plenty)
				synced(t, d, "manifest", old[:half])
				store(t, d, "manifest", old[half:])
				checkDisk(t, fmt.Sprintf("Save of %v over %.60q", m, old), d, whole("manifest", bytesOf(m)), manifest.Save(d, m), api.OK)
				checkLoad(t, "saved", d, m, api.OK)
			}
		}
	}
}

// A1: of what is not right nothing is done: neither File nor Temp is another one, on a disk that is full, too.
func TestSaveOfWrongOnes(t *testing.T) {
	empty, d, full := made(t, plenty), made(t, plenty), made(t, 4)
	synced(t, d, "manifest", bytesOf(of(9, 1)))
	synced(t, d, segment.Temp, "temp")
	store(t, d, segment.Temp, "more")
	store(t, full, segment.Temp, "temp")
	crowd(t, full, disk.MaxFiles)
	for _, d := range []*disk.Disk{empty, d, full} {
		before := tell(d)
		for _, m := range append(wrongOnes(), manifest.Manifest{}) {
			checkDisk(t, fmt.Sprintf("Save of %.60v", m), d, before, manifest.Save(d, m), api.ErrArg)
		}
	}
}

// A1: a file Temp that is there goes, whatever it has, and other files stay as they are.
func TestSaveWithTemp(t *testing.T) {
	for _, temp := range []string{"", "x", bytesOf(of(1)), bytesOf(of(9, 1)), bytesOf(of(9, 1)) + "x", strings.Repeat("x", 1000)} {
		for _, isSynced := range []bool{false, true} {
			d := made(t, plenty)
			store(t, d, segment.Temp, temp)
			if isSynced {
				d.Sync(segment.Temp)
			}
			store(t, d, "epoch", "abc")
			synced(t, d, "seg-1", "xyz")
			store(t, d, "seg-1", "more")
			want := fmt.Sprintf(`epoch="abc"/0 %s seg-1="xyzmore"/3`, whole("manifest", bytesOf(of(9, 1))))
			checkDisk(t, fmt.Sprintf("Save with Temp %.60q", temp), d, want, manifest.Save(d, of(9, 1)), api.OK)
		}
	}
}

// A1: without room for Temp the file is as it was, or not there, and there is no Temp; what Temp had is room again.
func TestSaveWithoutRoom(t *testing.T) {
	for _, m := range []manifest.Manifest{of(1), of(300, 1, 2, 299), of(1<<30, upTo(30)...)} {
		want := bytesOf(m)
		for _, old := range []string{"", bytesOf(of(9, 1, 8))} {
			for _, temp := range []string{"none", "", "x", want[:9], want} {
				for short := range len(want) + 1 {
					room := max(len(want)-short, len(temp))
					d := made(t, 3+len(old)+room)
					store(t, d, "x", "xyz")
					if old != "" {
						synced(t, d, "manifest", old[:5])
						store(t, d, "manifest", old[5:])
					}
					before, what := tell(d), fmt.Sprintf("Save of %v with %d bytes too few, Temp %.20q", m, short, temp)
					if temp != "none" {
						store(t, d, segment.Temp, temp)
					}
					if room < len(want) {
						checkDisk(t, what, d, before, manifest.Save(d, m), api.ErrFull)
						continue
					}
					checkDisk(t, what, d, whole("manifest", want)+` x="xyz"/0`, manifest.Save(d, m), api.OK)
				}
			}
		}
	}
}

// A1: without a file left for Temp the file is as it was; a Temp that is there is one.
func TestSaveWithoutFiles(t *testing.T) {
	for _, old := range []string{"none", "", bytesOf(of(9, 1, 8))} {
		d := made(t, plenty)
		if old != "none" {
			synced(t, d, "manifest", old)
		}
		crowd(t, d, disk.MaxFiles)
		checkDisk(t, "Save without a file left", d, tell(d), manifest.Save(d, of(5, 4)), api.ErrLong)
		d.Delete("f10")
		store(t, d, segment.Temp, "x")
		if err := manifest.Save(d, of(5, 4)); err != api.OK || slices.Contains(d.List(), segment.Temp) {
			t.Errorf("Save with Temp as the last file: %d, %s", err, tell(d))
		}
		checkLoad(t, "Temp was the last file", d, of(5, 4), api.OK)
	}
}

// A3: rows of Saves: Load tells the last one that was OK.
func TestLoadBehindSaves(t *testing.T) {
	d := made(t, 120)
	last := of(1)
	for i := range 300 {
		all := append(rightOnes(), wrongOnes()...)
		m := all[i*7%len(all)]
		before := tell(d)
		switch err := manifest.Save(d, m); {
		case err == api.OK:
			last = m
		case tell(d) != before:
			t.Errorf("Save of %v: %d, %s, want %s", m, err, tell(d), before)
		}
		checkLoad(t, "behind Save", d, last, api.OK)
		if i%5 == 0 {
			d.Crash([]int{i % 3})
			checkLoad(t, "behind a crash", d, last, api.OK)
		}
	}
}

// P3: what is saved is not written into, nor kept, and what is behind its length is not read.
func TestSaveKeepsNothing(t *testing.T) {
	l := []int{1, 2, 7, 7, 1000}
	d := made(t, plenty)
	if err := manifest.Save(d, of(9, l[:3]...)); err != api.OK || !slices.Equal(l, []int{1, 2, 7, 7, 1000}) {
		t.Errorf("%d, %d", err, l)
	}
	if !manifest.Right(manifest.Manifest{Next: 9, Segs: l[:3]}) || manifest.Right(manifest.Manifest{Next: 9, Segs: l[:4]}) {
		t.Error("Right reads behind the list")
	}
	clear(l)
	checkLoad(t, "what was saved was changed", d, of(9, 1, 2, 7), api.OK)
}

// P1: a long list comes to an answer.
func TestOfManySegs(t *testing.T) {
	d := made(t, plenty)
	m := of(1<<30, upTo(1<<20)...)
	if manifest.Right(m) {
		t.Error("Right of many Segs")
	}
	checkDisk(t, "Save of many Segs", d, "", manifest.Save(d, m), api.ErrArg)
}

// P1: a disk that is none, or that New did not make, brings no panic.
func TestOfNoDisk(t *testing.T) {
	for _, d := range []*disk.Disk{nil, new(disk.Disk)} {
		if err := manifest.Save(d, of(1)); err == api.OK {
			t.Errorf("Save: %d", err)
		}
		if err := manifest.Save(d, of(0)); err != api.ErrArg {
			t.Errorf("Save of what is not right: %d", err)
		}
		if m, err := manifest.Load(d); m.Next != 1 || len(m.Segs) != 0 || err != api.OK {
			t.Errorf("Load: %v, %d", m, err)
		}
		if err := manifest.Raise(d, 1); err == api.OK || manifest.Epoch(d) != 0 {
			t.Errorf("Raise: %d; Epoch: %d", err, manifest.Epoch(d))
		}
		if err := manifest.Raise(d, 0); err != api.ErrArg {
			t.Errorf("Raise of 0: %d", err)
		}
	}
}
