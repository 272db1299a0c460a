package record_test

import (
	"math"
	"slices"
	"strings"
	"testing"

	"bucketline/api"
	"bucketline/event"
	"bucketline/record"
)

// plain is an entry that is right.
func plain(pos, epoch int) api.Entry {
	return api.Entry{Pos: pos, Epoch: epoch, B: api.Batch{
		Stream: "s", Expect: 4, Session: 2, Seq: 3,
		Events: []api.Event{{Kind: "k", Data: "xy"}, {Kind: "l"}},
	}}
}

// with is a plain entry of which something is changed.
func with(change func(e *api.Entry)) api.Entry {
	e := plain(7, 5)
	change(&e)
	return e
}

// copyOf shares nothing with e.
func copyOf(e api.Entry) api.Entry {
	e.B.Events = slices.Clone(e.B.Events)
	return e
}

func copyOfRow(l []api.Entry) []api.Entry {
	var out []api.Entry
	for _, e := range l {
		out = append(out, copyOf(e))
	}
	return out
}

// sameEntry asks each part by itself.
func sameEntry(a, b api.Entry) bool {
	return a.Pos == b.Pos && a.Epoch == b.Epoch && a.B.Stream == b.B.Stream && a.B.Expect == b.B.Expect &&
		a.B.Session == b.B.Session && a.B.Seq == b.B.Seq && slices.Equal(a.B.Events, b.B.Events)
}

func sameRow(a, b []api.Entry) bool {
	return slices.EqualFunc(a, b, sameEntry)
}

// row are entries that go on from place 0, of these epochs.
func row(epochs ...int) []api.Entry {
	var l []api.Entry
	for i, epoch := range epochs {
		l = append(l, plain(i+1, epoch))
	}
	return l
}

// misfits are batches that do not fit.
func misfits() []api.Batch {
	var out []api.Batch
	for _, change := range []func(b *api.Batch){
		func(b *api.Batch) { *b = api.Batch{} },
		func(b *api.Batch) { b.Stream = "" },
		func(b *api.Batch) { b.Stream = "a b" },
		func(b *api.Batch) { b.Stream = strings.Repeat("x", 33) },
		func(b *api.Batch) { b.Expect = -2 },
		func(b *api.Batch) { b.Expect = 1<<38 + 1 },
		func(b *api.Batch) { b.Session = 0 },
		func(b *api.Batch) { b.Session = 1<<38 + 1 },
		func(b *api.Batch) { b.Seq = 0 },
		func(b *api.Batch) { b.Seq = 1<<38 + 1 },
		func(b *api.Batch) { b.Events = nil },
		func(b *api.Batch) { b.Events = slices.Repeat(b.Events[:1], 9) },
		func(b *api.Batch) { b.Events[1].Kind = "" },
		func(b *api.Batch) { b.Events[0].Data = strings.Repeat("x", 201) },
	} {
		b := plain(1, 1).B
		change(&b)
		out = append(out, b)
	}
	return out
}

// wrongEntries are not right, each by one part alone.
func wrongEntries() []api.Entry {
	var out []api.Entry
	for _, n := range []int{math.MinInt, -1 << 38, -1, 0, 1<<38 + 1, 1 << 39, 1 << 40, 1<<40 + 1, math.MaxInt} {
		out = append(out, with(func(e *api.Entry) { e.Pos = n }), with(func(e *api.Entry) { e.Epoch = n }))
	}
	for _, b := range misfits() {
		out = append(out, with(func(e *api.Entry) { e.B = b }))
	}
	return out
}

// rightEntries reach the edges of each part.
func rightEntries() []api.Entry {
	var out []api.Entry
	for _, n := range []int{1, 2, 127, 128, 300, 16384, 1 << 32, 1<<38 - 1, 1 << 38} {
		out = append(out, with(func(e *api.Entry) { e.Pos = n }), with(func(e *api.Entry) { e.Epoch = n }), plain(n, n))
	}
	greatest := api.Event{Kind: strings.Repeat("\U0001f4a7", 32), Data: strings.Repeat("\xff", 200)}
	full := api.Batch{Stream: greatest.Kind, Expect: 1 << 38, Session: 1 << 38, Seq: 1 << 38, Events: slices.Repeat([]api.Event{greatest}, 8)}
	return append(out,
		with(func(e *api.Entry) { e.B.Expect = -1 }),
		with(func(e *api.Entry) { e.B.Expect = 0 }),
		with(func(e *api.Entry) { e.B.Events = e.B.Events[:1] }),
		api.Entry{Pos: 1 << 38, Epoch: 1 << 38, B: full})
}

// R1: the bounds of Pos and Epoch.
func TestRightOfNumbers(t *testing.T) {
	for _, n := range []int{math.MinInt, -1 << 38, -1, 0, 1, 2, 127, 128, 1<<32 + 1, 1<<38 - 1, 1 << 38, 1<<38 + 1, 1 << 39, 1 << 40, 1<<40 + 1, math.MaxInt} {
		want := 1 <= n && n <= 274877906944
		if got := record.Right(with(func(e *api.Entry) { e.Pos = n })); got != want {
			t.Errorf("Right with Pos %d: %t", n, got)
		}
		if got := record.Right(with(func(e *api.Entry) { e.Epoch = n })); got != want {
			t.Errorf("Right with Epoch %d: %t", n, got)
		}
		if got := record.Right(plain(n, n)); got != want {
			t.Errorf("Right with Pos and Epoch %d: %t", n, got)
		}
	}
}

// R1: a batch that fits, and that does not.
func TestRightOfBatches(t *testing.T) {
	for _, e := range rightEntries() {
		if !record.Right(e) {
			t.Errorf("Right(%.80v): false", e)
		}
	}
	for i, b := range misfits() {
		if event.Fits(b) == api.OK {
			t.Fatalf("the batch %d fits", i)
		}
		if record.Right(api.Entry{Pos: 1, Epoch: 1, B: b}) {
			t.Errorf("Right with the batch %d that does not fit", i)
		}
	}
	if record.Right(api.Entry{}) {
		t.Error("Right of nothing")
	}
}

// R1: entries that are unlike in one part alone, and the same ones.
func TestSame(t *testing.T) {
	e := plain(7, 5)
	for what, other := range map[string]api.Entry{
		"Pos":             with(func(e *api.Entry) { e.Pos = 8 }),
		"Pos by 2^32":     with(func(e *api.Entry) { e.Pos += 1 << 32 }),
		"Pos below 0":     with(func(e *api.Entry) { e.Pos = -7 }),
		"Epoch":           with(func(e *api.Entry) { e.Epoch = 4 }),
		"Epoch by 2^32":   with(func(e *api.Entry) { e.Epoch += 1 << 32 }),
		"Pos and Epoch":   plain(5, 7),
		"Stream":          with(func(e *api.Entry) { e.B.Stream = "S" }),
		"Expect":          with(func(e *api.Entry) { e.B.Expect = 5 }),
		"Session":         with(func(e *api.Entry) { e.B.Session = 3 }),
		"Seq":             with(func(e *api.Entry) { e.B.Seq = 2 }),
		"no events":       with(func(e *api.Entry) { e.B.Events = nil }),
		"an event less":   with(func(e *api.Entry) { e.B.Events = e.B.Events[:1] }),
		"an event more":   with(func(e *api.Entry) { e.B.Events = append(e.B.Events, api.Event{}) }),
		"the first Kind":  with(func(e *api.Entry) { e.B.Events[0].Kind = "K" }),
		"the last Kind":   with(func(e *api.Entry) { e.B.Events[1].Kind = "L" }),
		"the first Data":  with(func(e *api.Entry) { e.B.Events[0].Data = "xz" }),
		"the last Data":   with(func(e *api.Entry) { e.B.Events[1].Data = "x" }),
		"events reversed": with(func(e *api.Entry) { slices.Reverse(e.B.Events) }),
		"all":             {},
	} {
		if record.Same(e, other) || record.Same(other, e) {
			t.Errorf("Same of entries that are unlike: %s", what)
		}
		if !record.Same(other, copyOf(other)) {
			t.Errorf("Same of an entry and its copy: %s", what)
		}
	}
	for _, e := range slices.Concat(rightEntries(), wrongEntries(), []api.Entry{{}}) {
		if !record.Same(e, copyOf(e)) {
			t.Errorf("Same of %.80v and its copy", e)
		}
	}
}

// R1: an entry's bytes, part by part.
func TestPut(t *testing.T) {
	for want, e := range map[string]api.Entry{
		"\x07\x05\x01s\x08\x02\x03\x02\x01k\x02xy\x01l\x00":                     plain(7, 5),
		"\xac\x02\x01\x01s\x08\x02\x03\x02\x01k\x02xy\x01l\x00":                 plain(300, 1),
		"\x01\xac\x02\x01s\x08\x02\x03\x02\x01k\x02xy\x01l\x00":                 plain(1, 300),
		"\x80\x80\x80\x80\x80\x08\x01\x01s\x08\x02\x03\x02\x01k\x02xy\x01l\x00": plain(1<<38, 1),
		"\x01\x80\x80\x80\x80\x80\x08\x02st\x01\x80\x01\x7f\x01\x01n\x00":       {Pos: 1, Epoch: 1 << 38, B: api.Batch{Stream: "st", Expect: -1, Session: 128, Seq: 127, Events: []api.Event{{Kind: "n"}}}},
	} {
		if got := record.Put(e); got != want {
			t.Errorf("Put(%v) = %q, want %q", e, got, want)
		}
	}
}

// R1: nothing, if an entry is not right.
func TestPutOfWrongEntries(t *testing.T) {
	for _, e := range append(wrongEntries(), api.Entry{}) {
		if s := record.Put(e); s != "" {
			t.Errorf("Put(%.80v) = %.60q", e, s)
		}
	}
}

// R1: how many entries there are, and theirs.
func TestPutRow(t *testing.T) {
	for _, none := range [][]api.Entry{nil, {}, row(1, 1)[:0]} {
		if s := record.PutRow(none); s != "\x00" {
			t.Errorf("PutRow of nothing = %q", s)
		}
	}
	one := record.Put(plain(7, 5))
	for count, head := range map[int]string{1: "\x01", 2: "\x02", 127: "\x7f", 128: "\x80\x01", 300: "\xac\x02"} {
		if s := record.PutRow(slices.Repeat([]api.Entry{plain(7, 5)}, count)); s != head+strings.Repeat(one, count) {
			t.Errorf("PutRow of %d entries = %.60q", count, s)
		}
	}
	want := "\x03"
	l := []api.Entry{plain(9, 1), plain(2, 8), plain(2, 3)}
	for _, e := range l {
		want += record.Put(e)
	}
	if s := record.PutRow(l); s != want {
		t.Errorf("PutRow of places that do not go on = %q, want %q", s, want)
	}
	if s := record.PutRow(row(1, 2, 3, 4)[:2]); s != record.PutRow(row(1, 2)) {
		t.Errorf("PutRow with entries behind its length = %q", s)
	}
}

// R1: nothing, if one is not right, wherever it stands.
func TestPutRowOfWrongEntries(t *testing.T) {
	for _, wrong := range wrongEntries() {
		for n := 1; n <= 5; n++ {
			for place := range n {
				l := row(1, 1, 2, 2, 3)[:n]
				l[place] = wrong
				if s := record.PutRow(l); s != "" {
					t.Errorf("PutRow with the entry %d of %d wrong (%.80v) = %.60q", place, n, wrong, s)
				}
			}
		}
	}
}

// P3: what is handed in is not written into.
func TestNothingIsWrittenInto(t *testing.T) {
	l := row(1, 1, 2)
	l = append(l, api.Entry{})[:3]
	before := copyOfRow(l[:4])
	record.PutRow(l)
	record.Follows(l, 0, 0)
	record.Marks(l)
	record.Put(l[0])
	record.Right(l[0])
	record.Same(l[0], l[1])
	if !sameRow(l[:4], before) {
		t.Errorf("%v, it was %v", l[:4], before)
	}
}
