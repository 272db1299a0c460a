package log_test

import (
	"fmt"
	"slices"
	"strings"
	"testing"

	"bucketline/api"
	"bucketline/disk"
	"bucketline/log"
	"bucketline/record"
	"bucketline/segment"
)

// checkOpen asks Open against the words, and then that Open again changes nothing.
func checkOpen(t testing.TB, what string, d *disk.Disk) (*log.Log, api.Errno) {
	t.Helper()
	before := tell(d)
	r, wantErr := refOpen(d.Clone())
	l, err := log.Open(d)
	what += ", Open of " + before[:min(len(before), 300)]
	checkDisk(t, what, d, tell(r.d), err, wantErr)
	if wantErr != api.OK {
		if l != nil {
			t.Fatalf("%s: %d, and a log", what, err)
		}
		return nil, err
	}
	checkLog(t, what, l, r.all(), r.numbers())
	checkFiles(t, what, d, r.numbers())
	now := tell(d)
	checkLog(t, what+", again", open(t, d), r.all(), r.numbers())
	checkDisk(t, what+", again", d, now, api.OK, api.OK)
	return l, api.OK
}

// opens asks that a disk opens to these entries and segments, and that an Append goes on from them.
func opens(t testing.TB, what string, d *disk.Disk, want []api.Entry, segs []int) {
	t.Helper()
	l, _ := checkOpen(t, what, d)
	if l == nil {
		t.Fatalf("%s: no log", what)
	}
	checkLog(t, what, l, want, segs)
	more := many(l.Last()+1, max(l.Epoch(), 1), 2)
	if err := l.Append(more); err != api.OK {
		t.Fatalf("%s: Append: %d", what, err)
	}
	checkOpened(t, what+", Append", d, append(slices.Clone(want), more...), l.Segs())
}

// L1: an empty disk, and one with other files alone, has a log without entries, and is not changed.
func TestOpenOfNothing(t *testing.T) {
	for what, d := range map[string]*disk.Disk{
		"an empty disk":              made(t, plenty),
		"a full disk":                made(t, 1),
		"other files":                laid(t, "a", "x", "epoch", framed("\x05"), "snap", "", "seg-", "x", "seg-0", "x", "seg-01", "y", "temp2", "z"),
		"a manifest of none":         laid(t, "manifest", manifestOf(1)),
		"a manifest of none, Next 9": laid(t, "manifest", manifestOf(9), "a", "x"),
	} {
		before := tell(d)
		l, err := checkOpen(t, what, d)
		checkDisk(t, what, d, before, err, api.OK)
		checkLog(t, what, l, nil, nil)
	}
	d := laid(t, "manifest", manifestOf(9))
	l := open(t, d)
	l.Append(many(1, 1, 9))
	checkLog(t, "Next 9", l, many(1, 1, 9), []int{9, 10})
}

// L1: a manifest that is not right is told, and nothing is changed: nothing is cut, and nothing is deleted.
func TestOpenOfAWrongManifest(t *testing.T) {
	e := many(1, 1, 9)
	right := manifestOf(3, 1, 2)
	wrong := []string{
		"", "x", right[:len(right)-1], right + "x", right + right, right[:8], strings.Repeat("\x00", 20), framed("\x03\x01"), framed("\x03\x00x"),
		manifestOf(0), manifestOf(2, 1, 2), manifestOf(3, 2, 1), manifestOf(3, 1, 1), manifestOf(3, 0, 1), manifestOf(1<<30 + 1),
	}
	for place := range right {
		wrong = append(wrong, right[:place]+string([]byte{right[place] ^ 1})+right[place+1:])
	}
	for _, s := range wrong {
		d := laid(t, "manifest", s, "seg-1", bytesOf(1, e[:8]...)+"torn", "seg-2", bytesOf(9, e[8:]...), "seg-7", "x", "other", "x")
		store(t, d, segment.Temp, "temp")
		store(t, d, "seg-2", "torn")
		before := tell(d)
		l, err := log.Open(d)
		if l != nil {
			t.Errorf("Open of the manifest %q: a log", s)
		}
		checkDisk(t, fmt.Sprintf("Open of the manifest %q", s), d, before, err, api.ErrForm)
	}
}

// fourSegments are the bytes of the segments 2, 3, 5 and 9, of entries that fill them, but for the last one, and have other epochs from the second one on.
func fourSegments() ([]api.Entry, [][]api.Entry, []int) {
	e := append(many(1, 2, 8), row(9, 2, 2, 3, 3, 4, 4, 4, 4, 4, 5, 5, 5, 5, 5, 5, 5, 6, 6, 6)...)
	return e, [][]api.Entry{e[:8], e[8:16], e[16:24], e[24:]}, []int{2, 3, 5, 9}
}

// layFour lays the four segments, with others at some places; no bytes at all is no file.
func layFour(t testing.TB, other map[int]string) *disk.Disk {
	t.Helper()
	_, parts, segs := fourSegments()
	d := laid(t, "manifest", manifestOf(12, segs...), "other", "x")
	for i, part := range parts {
		s, is := other[i]
		if !is {
			s = bytesOf(part[0].Pos, part...)
		}
		if s != "" {
			synced(t, d, refName(segs[i]), s)
		}
	}
	return d
}

// renumbered are the entries with places and epochs that are so many more.
func renumbered(l []api.Entry, places, epochs int) []api.Entry {
	var out []api.Entry
	for _, e := range l {
		e.Pos += places
		e.Epoch += epochs
		out = append(out, e)
	}
	return out
}

// noParts are what a segment may be that is left out.
func noParts(l []api.Entry) map[string]string {
	first := l[0].Pos
	wrongHead := bytesOf(first, l...)
	return map[string]string{
		"missing":                   "",
		"a byte":                    "x",
		"bytes of 0":                strings.Repeat("\x00", 40),
		"a head that is cut":        headOf(first)[:9],
		"a head of 0":               bytesOf(0, l...),
		"another head":              framed("e") + rowBytes(l...),
		"a turned bit in the head":  string([]byte{wrongHead[0] ^ 1}) + wrongHead[1:],
		"no head":                   rowBytes(l...),
		"a head too big":            headOf(1<<38+1) + rowBytes(l...),
		"one place ahead":           bytesOf(first-1, renumbered(l, -1, 0)...),
		"one place behind":          bytesOf(first+1, renumbered(l, 1, 0)...),
		"eight places ahead":        bytesOf(first-8, renumbered(l, -8, 0)...),
		"eight places behind":       bytesOf(first+8, renumbered(l, 8, 0)...),
		"far behind":                bytesOf(1<<38-20, renumbered(l, 1<<38-20-first, 0)...),
		"without entries, ahead":    headOf(first - 1),
		"without entries, behind":   headOf(first + 1),
		"one place ahead, torn":     bytesOf(first-1, renumbered(l, -1, 0)...) + "torn",
		"a first place, of no part": bytesOf(first+1, l...),
	}
}

// L1: a named segment that does not go on is left out, and all behind it; the manifest is saved without them, and their files are gone.
func TestOpenLeavesOut(t *testing.T) {
	e, parts, segs := fourSegments()
	for place, part := range parts {
		wrong := noParts(part)
		if place > 0 {
			// The epoch ahead is above 1, so that one below it is an epoch.
			lower := slices.Clone(part)
			lower[0].Epoch = parts[place-1][len(parts[place-1])-1].Epoch - 1
			wrong["a lower epoch"] = bytesOf(part[0].Pos, lower...)
			wrong["a lower epoch, torn"] = bytesOf(part[0].Pos, lower...) + "torn"
			wrong["one entry of a lower epoch"] = bytesOf(part[0].Pos, lower[0])
		}
		for what, s := range wrong {
			d := layFour(t, map[int]string{place: s})
			what = fmt.Sprintf("segment %d: %s", place, what)
			want := e[:part[0].Pos-1]
			opens(t, what, d.Clone(), want, segs[:place])
			checkOpen(t, what, d)
			left := laid(t, "manifest", manifestOf(12, segs[:place]...), "other", "x")
			for i := range place {
				synced(t, left, refName(segs[i]), bytesOf(parts[i][0].Pos, parts[i]...))
			}
			checkDisk(t, what, d, tell(left), api.OK, api.OK)
			d.Crash(nil)
			opens(t, what+", a crash", d, want, segs[:place])
		}
	}
}

// L1: what stands behind a segment that is left out is left out too, even if it goes on from what is ahead of that one.
func TestOpenLeavesOutAllBehind(t *testing.T) {
	e, behind := row(1, 2, 2, 5), row(4, 5, 6)
	wrong := noParts(behind)
	wrong["a lower epoch"] = bytesOf(4, row(4, 4, 5)...)
	for what, s := range wrong {
		for _, last := range []string{bytesOf(4, behind...), headOf(4), bytesOf(4, behind...) + "torn"} {
			d := laid(t, "manifest", manifestOf(9, 1, 2, 3, 4), "seg-1", bytesOf(1, e...), "seg-3", last, "seg-4", last)
			if s != "" {
				synced(t, d, "seg-2", s)
			}
			opens(t, what, d.Clone(), e, []int{1})
			checkOpen(t, what, d)
			checkDisk(t, what, d, tell(laid(t, "manifest", manifestOf(9, 1), "seg-1", bytesOf(1, e...))), api.OK, api.OK)
		}
	}
}

// L1: the same epoch goes on, and so does a higher one; a lower one does not, even where segments without entries stand between.
func TestOpenOfEpochs(t *testing.T) {
	for epoch := 1; epoch < 9; epoch++ {
		for _, empty := range []bool{false, true} {
			files := []string{"seg-1", bytesOf(1, row(1, 2, 5)...), "seg-4", bytesOf(3, row(3, epoch, 9)...)}
			segs := []int{1, 4}
			if empty {
				files, segs = append(files, "seg-2", headOf(3), "seg-3", headOf(3)), []int{1, 2, 3, 4}
			}
			d := laid(t, append(files, "manifest", manifestOf(5, segs...))...)
			if epoch < 5 {
				opens(t, "a lower epoch", d, row(1, 2, 5), segs[:len(segs)-1])
				continue
			}
			opens(t, "an epoch that goes on", d, row(1, 2, 5, epoch, 9), segs)
		}
	}
}

// tornTails are bytes behind the entries of a segment that are none of it.
func tornTails(next int) map[string]string {
	return map[string]string{
		"a byte":                   "x",
		"bytes of 0":               strings.Repeat("\x00", 20),
		"a frame that is cut":      rowBytes(plain(next, 9))[:20],
		"a length alone":           rowBytes(plain(next, 9))[:4],
		"a frame of nothing":       framed("x"),
		"another head":             headOf(next),
		"an entry left out":        rowBytes(plain(next+1, 9)),
		"the last entry again":     rowBytes(plain(next-1, 9)),
		"a lower epoch":            rowBytes(plain(next, 1)),
		"an entry and more bytes":  framed("e" + record.Put(plain(next, 9)) + "x"),
		"an entry behind a byte":   "x" + rowBytes(plain(next, 9)),
		"a wrong sum, and entries": "\x00\x00\x00\x01\x00\x00\x00\x00e" + rowBytes(plain(next, 9)),
	}
}

// L1: a segment that is torn is cut, wherever it stands: what is ahead of the tear is there, and those behind it, that go on, too.
func TestOpenCuts(t *testing.T) {
	e, parts, segs := fourSegments()
	for place, part := range parts {
		next := part[0].Pos + len(part)
		for what, tail := range tornTails(next) {
			d := layFour(t, map[int]string{place: bytesOf(part[0].Pos, part...) + tail})
			store(t, d, segment.Temp, "temp")
			what = fmt.Sprintf("segment %d with %s", place, what)
			opens(t, what, d.Clone(), e, segs)
			checkOpen(t, what, d)
			checkDisk(t, what, d, tell(layFour(t, nil)), api.OK, api.OK)
		}
	}
	// All of them at once.
	other := map[int]string{}
	for place, part := range parts {
		other[place] = bytesOf(part[0].Pos, part...) + "torn"
	}
	d := layFour(t, other)
	checkOpen(t, "all torn", d)
	checkDisk(t, "all torn", d, tell(layFour(t, nil)), api.OK, api.OK)
}

// L1: a segment that ends at any byte: its whole entries stay, and those behind it go, unless none of its own is missing.
func TestOpenOfCutSegments(t *testing.T) {
	e, parts, segs := fourSegments()
	for place, part := range parts {
		first := part[0].Pos
		whole := bytesOf(first, part...)
		for end := 1; end <= len(whole); end++ {
			count, left := 0, place+1
			for count < len(part) && len(bytesOf(first, part[:count+1]...)) <= end {
				count++
			}
			if end < len(headOf(first)) {
				left = place
			}
			want := e[:first-1+count]
			if count == len(part) {
				want, left = e, 4
			}
			d := layFour(t, map[int]string{place: whole[:end]})
			opens(t, fmt.Sprintf("segment %d, %d of %d bytes", place, end, len(whole)), d, want, segs[:left])
		}
	}
}

// L1: a turned byte in a segment ends the log there.
func TestOpenOfTurnedBytes(t *testing.T) {
	_, parts, _ := fourSegments()
	for place, part := range parts {
		whole := bytesOf(part[0].Pos, part...)
		for i := range whole {
			d := layFour(t, map[int]string{place: whole[:i] + string([]byte{whole[i] ^ 0x10}) + whole[i+1:]})
			l, err := checkOpen(t, "a turned byte", d)
			if err != api.OK || l.Last() >= part[0].Pos-1+len(part) {
				t.Fatalf("segment %d, byte %d turned: %d, Last %d", place, i, err, l.Last())
			}
		}
	}
}

// L1: a segment without entries stays, wherever it stands.
func TestOpenOfSegmentsWithoutEntries(t *testing.T) {
	e := row(1, 1, 1, 2)
	for what, c := range map[string]struct {
		parts []string
		want  []api.Entry
	}{
		"alone":             {[]string{headOf(1)}, nil},
		"thrice":            {[]string{headOf(1), headOf(1), headOf(1)}, nil},
		"at first":          {[]string{headOf(1), bytesOf(1, e...)}, e},
		"at last":           {[]string{bytesOf(1, e...), headOf(4)}, e},
		"in the middle":     {[]string{bytesOf(1, e[:1]...), headOf(2), headOf(2), bytesOf(2, e[1:]...)}, e},
		"torn, alone":       {[]string{headOf(1) + "x"}, nil},
		"torn, at last":     {[]string{bytesOf(1, e...), headOf(4) + rowBytes(plain(5, 2))}, e},
		"torn, in between":  {[]string{bytesOf(1, e[:1]...), headOf(2) + "torn", bytesOf(2, e[1:]...)}, e},
		"torn, at first":    {[]string{headOf(1) + "torn", bytesOf(1, e...)}, e},
		"thirty of no more": {slices.Repeat([]string{headOf(1)}, 29), nil},
	} {
		segs := segsOf(8 * len(c.parts))
		d := laid(t, "manifest", manifestOf(len(c.parts)+1, segs...))
		for i, s := range c.parts {
			synced(t, d, refName(i+1), s)
		}
		opens(t, what, d, c.want, segs)
	}
}

// L1: files of segments that are not named go, and Temp; those of other names stay.
func TestOpenDeletes(t *testing.T) {
	e := many(1, 1, 9)
	files := []string{"manifest", manifestOf(3, 1, 2), "seg-1", bytesOf(1, e[:8]...), "seg-2", bytesOf(9, e[8:]...)}
	stay := []string{"seg-0", "seg-", "seg", "seg-01", "seg-003", "seg--1", "seg-1a", "seg-1073741825", "seg-18446744073709551617", "Seg-3", "xseg-3", "seg-3x", "temp-", "Temp", "temp1", "epoch", "snap", "ready", "manifest2", "é"}
	for _, name := range stay {
		files = append(files, name, "bytes of "+name)
	}
	want := tell(laid(t, files...))
	d := laid(t, files...)
	for _, name := range []string{"seg-3", "seg-4", "seg-10", "seg-11", "seg-20", "seg-1073741824", segment.Temp} {
		store(t, d, name, bytesOf(10, plain(10, 1)))
	}
	opens(t, "files", d.Clone(), e, []int{1, 2})
	checkOpen(t, "files", d)
	checkDisk(t, "files", d, want, api.OK, api.OK)
	// Without a manifest no segment is named.
	d.Delete("manifest")
	opens(t, "no manifest", d.Clone(), nil, nil)
	checkOpen(t, "no manifest", d)
	if len(d.List()) != len(stay) {
		t.Errorf("no manifest: %q", d.List())
	}
}

// L1: a Cut that the disk refuses: its error, and the segment is as it was; what is named, and what is not, stays.
func TestOpenThatCannotCut(t *testing.T) {
	_, parts, _ := fourSegments()
	for place, part := range parts {
		d := layFour(t, map[int]string{place: bytesOf(part[0].Pos, part...) + "torn"})
		store(t, d, "seg-77", "not named")
		need := len(bytesOf(part[0].Pos, part...))
		for more := range need + 2 {
			small := resized(t, d, d.Used()+more)
			before := tell(small)
			l, err := checkOpen(t, "little room to cut", small)
			if more < need {
				checkDisk(t, "no room to cut", small, before, err, api.ErrFull)
			} else if err != api.OK || l.Last() != 27 {
				t.Errorf("room to cut: %d", err)
			}
		}
		crowd(t, d, disk.MaxFiles)
		before := tell(d)
		_, err := checkOpen(t, "no file to cut", d)
		checkDisk(t, "no file to cut", d, before, err, api.ErrLong)
	}
}

// L1: what Temp has is room for the Cut, and for the manifest.
func TestOpenTakesTempsRoom(t *testing.T) {
	_, parts, _ := fourSegments()
	d := layFour(t, map[int]string{1: bytesOf(9, parts[1]...) + "torn", 3: "x"})
	need := len(bytesOf(9, parts[1]...))
	for temp := range need + 3 {
		used := d.Clone()
		store(t, used, segment.Temp, strings.Repeat("x", temp))
		want := api.OK
		if temp < need {
			want = api.ErrFull
		}
		if _, err := checkOpen(t, "a long Temp", resized(t, used, used.Used())); err != want {
			t.Errorf("a Temp of %d bytes: %d, want %d", temp, err, want)
		}
	}
}

// L1: a manifest that the disk does not take: its error. What was cut ahead of it is cut; no file is deleted but Temp.
func TestOpenThatCannotSave(t *testing.T) {
	_, parts, segs := fourSegments()
	for place := range parts {
		d := layFour(t, map[int]string{place: "x"})
		store(t, d, "seg-77", "not named")
		need := len(manifestOf(12, segs[:place]...))
		for more := range need + 2 {
			small := resized(t, d, d.Used()+more)
			before := tell(small)
			_, err := checkOpen(t, "little room to save", small)
			if more < need {
				checkDisk(t, "no room to save", small, before, err, api.ErrFull)
			} else if err != api.OK {
				t.Errorf("room to save: %d", err)
			}
		}
		crowd(t, d, disk.MaxFiles)
		before := tell(d)
		_, err := checkOpen(t, "no file to save", d)
		checkDisk(t, "no file to save", d, before, err, api.ErrLong)
	}
	// Both: a segment that shrinks first, and a manifest for which there is no file but Temp's.
	d := layFour(t, map[int]string{1: bytesOf(9, parts[1]...) + strings.Repeat("torn", 300), 2: "x"})
	l, err := checkOpen(t, "cut, then saved", resized(t, d, d.Used()+len(bytesOf(9, parts[1]...))))
	if err != api.OK || l.Last() != 16 {
		t.Errorf("cut, then saved: %d", err)
	}
}

// P1, L1: segments that another hand made long are read.
func TestOpenOfLongSegments(t *testing.T) {
	e := many(1, 3, 3000)
	d := laid(t, "manifest", manifestOf(3, 1, 2), "seg-1", bytesOf(1, e[:2000]...), "seg-2", bytesOf(2001, e[2000:]...))
	opens(t, "long segments", d, e, []int{1, 2})
	l := open(t, d)
	if err := l.Truncate(1999); err != api.OK {
		t.Errorf("Truncate: %d", err)
	}
	checkLog(t, "long segments, cut", l, e[:1999], []int{1})
	checkOpened(t, "long segments, cut", d, e[:1999], []int{1})
}

// L1: a manifest of 30 segments, and one that lost some of them.
func TestOpenOfThirtySegments(t *testing.T) {
	e := many(1, 1, 240)
	d, _ := holding(t, e)
	for missing := 1; missing <= 30; missing++ {
		other := d.Clone()
		other.Delete(refName(missing))
		opens(t, "thirty segments less one", other, e[:8*(missing-1)], segsOf(8*(missing-1)))
	}
	checkOpened(t, "thirty segments", d, e, segsOf(240))
}

// P4: a log hangs on what is on its disk alone; two logs of disks that are alike do not share anything.
func TestOpenOfClones(t *testing.T) {
	d, l := holding(t, many(1, 1, 12))
	other := d.Clone()
	m := open(t, other)
	m.Truncate(3)
	m.Append(many(4, 2, 2))
	checkLog(t, "one", l, many(1, 1, 12), []int{1, 2})
	checkLog(t, "the other", m, append(many(1, 1, 3), many(4, 2, 2)...), []int{1})
	checkOpened(t, "one", d, many(1, 1, 12), []int{1, 2})
}
