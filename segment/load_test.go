package segment_test

import (
	"fmt"
	"math"
	"slices"
	"strings"
	"testing"

	"bucketline/api"
	"bucketline/segment"
)

// checkBytes holds Load of a file of these bytes against the reference.
func checkBytes(t testing.TB, what, s string) {
	t.Helper()
	want, err := refRead(s)
	checkLoad(t, what, holding(t, "seg-4", s), 4, want, err)
}

// greatest is an entry of as many bytes as there can be.
func greatest(pos, epoch int) api.Entry {
	x := api.Event{Kind: strings.Repeat("\U0001f4a7", api.MaxName), Data: strings.Repeat("\xff", api.MaxData)}
	b := api.Batch{Stream: x.Kind, Expect: 1 << 38, Session: 1 << 38, Seq: 1 << 38, Events: slices.Repeat([]api.Event{x}, api.MaxEvents)}
	return api.Entry{Pos: pos, Epoch: epoch, B: b}
}

// S2: a segment that is not there is told so, whatever else is.
func TestLoadOfNone(t *testing.T) {
	empty, d := made(t, plenty), holding(t, "seg-1", bytesOf(1))
	store(t, d, "seg-02", bytesOf(1))
	store(t, d, "2", bytesOf(1))
	store(t, d, "seg-0", bytesOf(1))
	store(t, d, "seg--1", bytesOf(1))
	store(t, d, "seg-1073741825", bytesOf(1))
	for _, n := range append(noNumbers(), 2, 10, 1<<30) {
		checkLoad(t, "an empty disk", empty, n, segment.Segment{}, api.ErrNone)
		checkLoad(t, "a disk without it", d, n, segment.Segment{}, api.ErrNone)
	}
}

// S2: what has no first payload that is `s` and one number of 1 to 2^38 alone.
func TestLoadOfWrongHeads(t *testing.T) {
	five := bytesOf(5)
	turned := five[:len(five)-1] + "\x06"
	for what, s := range map[string]string{
		"bytes that are no frame":                 "nonsense",
		"many bytes that are no frame":            strings.Repeat("nonsense", 1000),
		"bytes of 0":                              strings.Repeat("\x00", 100),
		"a byte ahead of the first frame":         "x" + five,
		"a first frame of no byte":                framed("") + five,
		"a first frame with another sum":          turned,
		"a first frame with another sum, and one": turned + five,
		"a first frame of more than 8000 bytes":   framed("s" + strings.Repeat("\x01", 8000)),
		"an entry":                                rowBytes(plain(5, 1)),
		"an entry ahead of the first frame":       rowBytes(plain(5, 1)) + five,
		"s alone":                                 framed("s"),
		"s alone, and a whole one behind":         framed("s") + five,
		"a number alone":                          framed("\x05"),
		"another letter":                          framed("S\x05"),
		"the letter of an entry":                  framed("e\x05"),
		"s twice":                                 framed("ss\x05"),
		"a byte ahead of s":                       framed("xs\x05"),
		"two numbers":                             framed("s\x05\x05"),
		"a number and a byte":                     framed("s\x05x"),
		"a number and its entry in one":           framed("s\x05e" + entryBytes(plain(5, 1))),
		"a number that is cut":                    framed("s\x80"),
		"a number of too many groups":             framed("s\x85\x00"),
		"a number of seven groups":                framed("s\x80\x80\x80\x80\x80\x80\x01"),
		"a first place 0":                         framed("s\x00"),
		"a first place 0, and entries":            bytesOf(0, row(0, 1, 1)...),
		"a first place of 2^38 + 1":               bytesOf(1<<38 + 1),
		"a first place of 2^40":                   bytesOf(1 << 40),
		"a first place of 2^40 + 1":               bytesOf(1<<40 + 1),
	} {
		checkBytes(t, what, s)
		for _, tail := range []string{"", five, rowBytes(row(1, 1, 1)...), rowBytes(row(5, 1, 1)...)} {
			checkLoad(t, what, holding(t, "seg-4", s+tail), 4, segment.Segment{}, api.ErrForm)
		}
	}
	checkLoad(t, "no byte", holding(t, "seg-4", ""), 4, segment.Segment{}, api.ErrForm)
}

// S2: whole segments, of no entries and of some, from each edge of the first places.
func TestLoadOfEntries(t *testing.T) {
	for _, first := range firsts() {
		for _, epochs := range [][]int{nil, {1}, {7}, {1 << 38}, {1, 1}, {1, 2}, {3, 3, 9}, {1, 1, 2, 2, 1 << 38, 1 << 38, 1 << 38, 1 << 38, 1 << 38}} {
			l := row(first, epochs[:min(len(epochs), 1<<38-first+1)]...)
			for _, name := range []string{"seg-4", "seg-1073741824"} {
				d := holding(t, name, bytesOf(first, l...))
				checkLoad(t, fmt.Sprint(len(l), " entries"), d, segment.Number(name), segment.Segment{First: first, Entries: l}, api.OK)
			}
		}
	}
	large := []api.Entry{greatest(1<<38-1, 1), greatest(1<<38, 1<<38)}
	checkLoad(t, "the greatest entries", holding(t, "seg-4", bytesOf(1<<38-1, large...)), 4, segment.Segment{First: 1<<38 - 1, Entries: large}, api.OK)
}

// S2: the bytes of a small segment, frame by frame.
func TestLoadOfBytes(t *testing.T) {
	e := api.Entry{Pos: 300, Epoch: 2, B: api.Batch{Stream: "st", Expect: -1, Session: 1, Seq: 9, Events: []api.Event{{Kind: "k", Data: "xy"}}}}
	s := framed("s\xac\x02") + framed("e\xac\x02\x02\x02st\x01\x01\x09\x01\x01k\x02xy")
	want := segment.Segment{First: 300, Entries: []api.Entry{e}}
	checkLoad(t, "bytes that are written out", holding(t, "seg-4", s), 4, want, api.OK)
	d := made(t, plenty)
	if segment.Create(d, 4, 300) != api.OK || segment.Add(d, 4, want.Entries) != api.OK {
		t.Error("Create or Add errs")
	}
	if got, _ := d.Read("seg-4"); got != s {
		t.Errorf("%q, want %q", got, s)
	}
}

// wrongBodies are payloads that are not `e` and a right entry alone; the entry in them has this place.
func wrongBodies(pos int) map[string]string {
	whole := entryBytes(plain(pos, 3))
	out := map[string]string{
		"e alone":                      "e",
		"an entry without e":           whole,
		"an entry behind another byte": "E" + whole,
		"an entry behind s":            "s" + whole,
		"an entry behind ee":           "ee" + whole,
		"a byte ahead of e":            "x" + "e" + whole,
		"a byte behind the entry":      "e" + whole + "x",
		"two entries in one":           "e" + whole + entryBytes(plain(pos+1, 3)),
		"two payloads in one":          "e" + whole + "e" + entryBytes(plain(pos+1, 3)),
		"a first payload":              "s" + number(pos),
		"a number of too many groups":  "e" + number(pos) + "\x83\x00" + whole[len(number(pos))+1:],
		"bytes of 0":                   "\x00\x00\x00",
	}
	for end := range len(whole) {
		out[fmt.Sprint("an entry of ", end, " bytes")] = "e" + whole[:end]
	}
	for what, change := range map[string]func(e *api.Entry){
		"an epoch 0":              func(e *api.Entry) { e.Epoch = 0 },
		"an epoch above 2^38":     func(e *api.Entry) { e.Epoch = 1<<38 + 1 },
		"a place 0":               func(e *api.Entry) { e.Pos = 0 },
		"a place above 2^38":      func(e *api.Entry) { e.Pos = 1<<38 + 1 },
		"a stream that is none":   func(e *api.Entry) { e.B.Stream = "a b" },
		"a session 0":             func(e *api.Entry) { e.B.Session = 0 },
		"no events":               func(e *api.Entry) { e.B.Events = nil },
		"an event that is wrong":  func(e *api.Entry) { e.B.Events[1].Kind = "" },
		"nine events":             func(e *api.Entry) { e.B.Events = slices.Repeat(e.B.Events[:1], 9) },
		"events of too many data": func(e *api.Entry) { e.B.Events[0].Data = strings.Repeat("x", 201) },
	} {
		e := plain(pos, 3)
		change(&e)
		out[what] = "e" + entryBytes(e)
	}
	return out
}

// S2: up to the first payload that is not `e` and a right entry alone; whatever is behind it is left.
func TestLoadOfWrongBodies(t *testing.T) {
	for count := range 4 {
		l := row(20, 1, 2, 2)[:count]
		want := segment.Segment{First: 20, Entries: l, Torn: true}
		for what, payload := range wrongBodies(20 + count) {
			s := bytesOf(20, l...) + framed(payload)
			checkBytes(t, what, s)
			for _, tail := range []string{"", "x", rowBytes(plain(20+count, 3)), rowBytes(row(21+count, 3, 4)...)} {
				checkLoad(t, what, holding(t, "seg-4", s+tail), 4, want, api.OK)
			}
		}
	}
}

// S2: up to the first entry that does not go on, by its place or by its epoch.
func TestLoadOfEntriesThatDoNotGoOn(t *testing.T) {
	for _, c := range []struct {
		l    []api.Entry
		good int
	}{
		{[]api.Entry{plain(4, 1)}, 0},
		{[]api.Entry{plain(6, 1)}, 0},
		{[]api.Entry{plain(1, 1)}, 0},
		{[]api.Entry{plain(6, 1), plain(5, 1)}, 0},
		{[]api.Entry{plain(6, 1), plain(7, 1)}, 0},
		{[]api.Entry{plain(5, 1), plain(5, 1)}, 1},
		{[]api.Entry{plain(5, 1), plain(7, 1)}, 1},
		{[]api.Entry{plain(5, 1), plain(4, 1)}, 1},
		{[]api.Entry{plain(5, 1), plain(7, 1), plain(6, 1)}, 1},
		{[]api.Entry{plain(5, 2), plain(6, 1)}, 1},
		{[]api.Entry{plain(5, 2), plain(6, 1), plain(6, 2)}, 1},
		{[]api.Entry{plain(5, 1<<38), plain(6, 1<<38-1)}, 1},
		{[]api.Entry{plain(5, 1), plain(6, 4), plain(7, 3)}, 2},
		{[]api.Entry{plain(5, 1), plain(6, 4), plain(7, 3), plain(8, 4)}, 2},
		{[]api.Entry{plain(5, 1), plain(6, 4), plain(8, 4), plain(7, 4)}, 2},
		{[]api.Entry{plain(5, 1), plain(6, 4), plain(7, 4), plain(7, 4)}, 3},
		{[]api.Entry{plain(5, 1), plain(6, 4), plain(7, 4), plain(8, 4)}, 4},
	} {
		want := segment.Segment{First: 5, Entries: c.l[:c.good], Torn: c.good < len(c.l)}
		s := bytesOf(5, c.l...)
		checkBytes(t, "entries", s)
		checkLoad(t, brief(segment.Segment{First: 5, Entries: c.l}), holding(t, "seg-4", s), 4, want, api.OK)
	}
	past := bytesOf(1<<38, plain(1<<38, 1), plain(1<<38+1, 1))
	checkLoad(t, "an entry behind 2^38", holding(t, "seg-4", past), 4, segment.Segment{First: 1 << 38, Entries: row(1<<38, 1), Torn: true}, api.OK)
}

// S2: a segment that is cut at each place, with nothing behind it, or with bytes that are no frame.
func TestLoadOfTornBytes(t *testing.T) {
	l := row(5, 1, 1, 4, 4)
	s := bytesOf(5, l...)
	for end := range len(s) + 1 {
		for _, tail := range []string{"", "\x00", "x", strings.Repeat("\xff", 9), strings.Repeat("\x00", 300), framed(""), framed("x")} {
			bytes := s[:end] + tail
			d, what := holding(t, "seg-4", bytes), fmt.Sprintf("%d bytes and %.20q", end, tail)
			checkBytes(t, what, bytes)
			// A tail may begin as what was cut: its first bytes are as good as those.
			good := -1
			for count := range len(l) + 1 {
				if strings.HasPrefix(bytes, bytesOf(5, l[:count]...)) {
					good = count
				}
			}
			if good < 0 {
				checkLoad(t, what, d, 4, segment.Segment{}, api.ErrForm)
				continue
			}
			torn := bytes != bytesOf(5, l[:good]...)
			checkLoad(t, what, d, 4, segment.Segment{First: 5, Entries: l[:good], Torn: torn}, api.OK)
		}
	}
}

// S2: with a byte that is another one, all ahead of its frame is told, and nothing else.
func TestLoadOfTurnedBytes(t *testing.T) {
	l := row(5, 1, 1, 4)
	s := bytesOf(5, l...)
	for place := range len(s) {
		good := 0
		for count := range len(l) + 1 {
			if len(bytesOf(5, l[:count]...)) <= place {
				good = count
			}
		}
		for _, turn := range []byte{1, 2, 0x80, 0xff} {
			turned := s[:place] + string([]byte{s[place] ^ turn}) + s[place+1:]
			want, wantErr := segment.Segment{First: 5, Entries: l[:good], Torn: true}, api.OK
			if place < len(bytesOf(5)) {
				want, wantErr = segment.Segment{}, api.ErrForm
			}
			checkLoad(t, fmt.Sprintf("byte %d turned by %d", place, turn), holding(t, "seg-4", turned), 4, want, wantErr)
		}
	}
}

// P3, P4: each answer has lists of its own, and hangs on the disk alone.
func TestLoadedListsAreNew(t *testing.T) {
	l := row(5, 1, 2, 2)
	d := holding(t, "seg-4", bytesOf(5, l...))
	first, _ := segment.Load(d, 4)
	second, _ := segment.Load(d, 4)
	for i := range first.Entries {
		first.Entries[i].B.Events[0].Kind = "changed"
		first.Entries[i] = api.Entry{}
	}
	first.Entries = append(first.Entries, plain(8, 2))
	want := segment.Segment{First: 5, Entries: l}
	if !same(second, want) {
		t.Errorf("%s", brief(second))
	}
	checkLoad(t, "an answer was changed", d, 4, want, api.OK)
	store(t, d, "seg-4", rowBytes(plain(8, 2)))
	if !same(second, want) {
		t.Errorf("the disk was written: %s", brief(second))
	}
}

// P1: long files come to an answer.
func TestLoadOfLongFiles(t *testing.T) {
	const many = 3000
	var l []api.Entry
	for i := range many {
		l = append(l, plain(i+1, i/7+1))
	}
	checkLoad(t, "many entries", holding(t, "seg-4", bytesOf(1, l...)), 4, segment.Segment{First: 1, Entries: l}, api.OK)
	for _, part := range []string{"\x00", "\xff", "s", "e", framed("s\x01"), framed("e"), framed("x")} {
		s := strings.Repeat(part, plenty/len(part)/2)
		d := holding(t, "seg-4", s)
		if got, err := segment.Load(d, 4); part == framed("s\x01") && (err != api.OK || got.First != 1 || !got.Torn) || part != framed("s\x01") && err != api.ErrForm {
			t.Errorf("%.20q: %s, %d", part, brief(got), err)
		}
	}
}

// FuzzLoad: S2: bytes, and bytes that are framed behind a whole segment.
func FuzzLoad(f *testing.F) {
	f.Add(bytesOf(5, row(5, 1, 2)...), "x", 3)
	f.Add("", "e"+entryBytes(plain(5, 1)), 0)
	f.Add(bytesOf(1<<38), "e"+entryBytes(plain(1<<38, 1<<38)), math.MaxInt)
	f.Fuzz(func(t *testing.T, s, payload string, last int) {
		if len(s)+len(payload) > 10000 {
			return
		}
		for _, bytes := range []string{s, bytesOf(5, plain(5, 1)) + s, bytesOf(5) + framed(payload) + s, framed(payload) + s, s + framed("e"+payload)} {
			checkBytes(t, "bytes", bytes)
			got, want := holding(t, "seg-4", bytes), holding(t, "seg-4", bytes)
			gotErr, wantErr := segment.Cut(got, 4, last), refCut(want, 4, last)
			checkDisk(t, "Cut", got, tell(want), gotErr, wantErr)
		}
	})
}
