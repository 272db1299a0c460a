package event_test

import (
	"math"
	"slices"
	"strings"
	"testing"

	"bucketline/api"
	"bucketline/event"
)

// some are n events that are right, and all unlike.
func some(n int) []api.Event {
	var events []api.Event
	for i := range n {
		events = append(events, api.Event{Kind: "k" + string(rune('0'+i%10)), Data: strings.Repeat("\x80", i)})
	}
	return events
}

// plain is a batch that fits, with n events.
func plain(n int) api.Batch {
	return api.Batch{Stream: "s", Expect: 4, Session: 2, Seq: 3, Events: some(n)}
}

// with is a plain batch of two events of which something is changed.
func with(change func(b *api.Batch)) api.Batch {
	b := plain(2)
	change(&b)
	return b
}

// copyOf shares nothing with b.
func copyOf(b api.Batch) api.Batch {
	b.Events = slices.Clone(b.Events)
	return b
}

// someNames are right, the last one as long as a name may be, in runes and in bytes.
func someNames() []string {
	return []string{"k", "Z", "0", "-", "_", ".", "made-up_1.x", "é", "\u00a0", "\ufffd", "水", "\U0010ffff", strings.Repeat("x", 32), strings.Repeat("\U0001f4a7", 32)}
}

func noNames() []string {
	return []string{
		"", " ", "a b", " a", "a ", "a\n", "\x00", "\x7f", "a/b", `"a"`, "a:", "@", "[", "`", "{", "\u0080", "\u009f", "\x80", "\xff", "é\xff", "\xc3", "\xed\xa0\x80",
		strings.Repeat("x", 33), strings.Repeat("é", 33), strings.Repeat("x", 200), strings.Repeat("x", 1<<20),
	}
}

// E1: kinds that are names, and that are not.
func TestRightOfKinds(t *testing.T) {
	for _, kind := range someNames() {
		if !event.Right(api.Event{Kind: kind}) || !event.Right(api.Event{Kind: kind, Data: "a b"}) {
			t.Errorf("Right: not with the kind %q", kind)
		}
	}
	for _, kind := range noNames() {
		if event.Right(api.Event{Kind: kind}) || event.Right(api.Event{Kind: kind, Data: "x"}) {
			t.Errorf("Right: with the kind %.60q", kind)
		}
	}
}

// E1: data is any bytes, at most 200 of them.
func TestRightOfData(t *testing.T) {
	for _, data := range []string{"", "x", "a b", "\x00", "\xff\x80", "\n", strings.Repeat("x", 199), strings.Repeat("\xff", 200), strings.Repeat("é", 100)} {
		if !event.Right(api.Event{Kind: "k", Data: data}) {
			t.Errorf("Right: not with the data %q", data)
		}
	}
	for _, data := range []string{strings.Repeat("x", 201), strings.Repeat("\x00", 201), strings.Repeat("é", 101), strings.Repeat("水", 67), strings.Repeat("x", 456), strings.Repeat("x", 1<<16), strings.Repeat("x", 1<<20)} {
		if event.Right(api.Event{Kind: "k", Data: data}) {
			t.Errorf("Right: with data of %d bytes", len(data))
		}
	}
}

// E1: a stream that is a name, and that is none.
func TestFitsOfStreams(t *testing.T) {
	for _, name := range someNames() {
		if err := event.Fits(with(func(b *api.Batch) { b.Stream = name })); err != api.OK {
			t.Errorf("Fits with the stream %q: %d", name, err)
		}
	}
	for _, name := range noNames() {
		if err := event.Fits(with(func(b *api.Batch) { b.Stream = name })); err != api.ErrArg {
			t.Errorf("Fits with the stream %.60q: %d", name, err)
		}
	}
}

// E1: the bounds of the three numbers.
func TestFitsOfNumbers(t *testing.T) {
	part := map[string]func(b *api.Batch) *int{
		"Expect":  func(b *api.Batch) *int { return &b.Expect },
		"Session": func(b *api.Batch) *int { return &b.Session },
		"Seq":     func(b *api.Batch) *int { return &b.Seq },
	}
	least := map[string]int{"Expect": -1, "Session": 1, "Seq": 1}
	for name, of := range part {
		for _, n := range []int{math.MinInt, -1 << 39, -1 << 38, -3, -2, -1, 0, 1, 2, 127, 128, 1<<32 + 1, 1<<38 - 1, 1 << 38, 1<<38 + 1, 1 << 39, 1 << 40, 1<<40 + 1, math.MaxInt} {
			want := api.ErrArg
			if least[name] <= n && n <= 1<<38 {
				want = api.OK
			}
			if err := event.Fits(with(func(b *api.Batch) { *of(b) = n })); err != want {
				t.Errorf("Fits with %s %d: %d, want %d", name, n, err, want)
			}
		}
	}
}

// E1: the chapter's example, and how many events there are.
func TestFitsOfManyEvents(t *testing.T) {
	for _, none := range [][]api.Event{nil, {}, some(3)[:0]} {
		if err := event.Fits(with(func(b *api.Batch) { b.Events = none })); err != api.ErrArg {
			t.Errorf("Fits with no event: %d", err)
		}
	}
	for n := 1; n <= 8; n++ {
		if err := event.Fits(plain(n)); err != api.OK {
			t.Errorf("Fits with %d events: %d", n, err)
		}
	}
	for _, n := range []int{9, 10, 16, 100, 256, 1 << 16} {
		if err := event.Fits(with(func(b *api.Batch) { b.Events = slices.Repeat(some(1), n) })); err != api.ErrLong {
			t.Errorf("Fits with %d events: %d", n, err)
		}
	}
}

// wrongEvents are not right.
func wrongEvents() []api.Event {
	return []api.Event{{}, {Kind: "a b"}, {Data: "x"}, {Kind: "\xff", Data: "x"}, {Kind: "k", Data: strings.Repeat("x", 201)}, {Kind: strings.Repeat("x", 33)}}
}

// E1: one event that is not right, at each place.
func TestFitsOfWrongEvents(t *testing.T) {
	for _, wrong := range wrongEvents() {
		for n := 1; n <= 8; n++ {
			for place := range n {
				b := plain(n)
				b.Events[place] = wrong
				if err := event.Fits(b); err != api.ErrArg {
					t.Errorf("Fits with the event %d of %d wrong: %d", place, n, err)
				}
				if s := event.PutBatch(b); s != "" {
					t.Errorf("PutBatch with the event %d of %d wrong: %q", place, n, s)
				}
			}
		}
	}
}

// E1: what the promise names first is told.
func TestFitsOrder(t *testing.T) {
	heads := []func(b *api.Batch){
		func(b *api.Batch) { b.Stream = "" },
		func(b *api.Batch) { b.Expect = -2 },
		func(b *api.Batch) { b.Expect = 1<<38 + 1 },
		func(b *api.Batch) { b.Session = 0 },
		func(b *api.Batch) { b.Seq = 0 },
	}
	for i, change := range heads {
		b := plain(9)
		change(&b)
		if err := event.Fits(b); err != api.ErrArg {
			t.Errorf("Fits with a wrong head (%d) and 9 events: %d", i, err)
		}
	}
	for place := range 9 {
		b := plain(9)
		b.Events[place].Kind = ""
		if err := event.Fits(b); err != api.ErrLong {
			t.Errorf("Fits of 9 events, one not right: %d", err)
		}
	}
	if err := event.Fits(api.Batch{}); err != api.ErrArg {
		t.Errorf("Fits of nothing: %d", err)
	}
}

// unlike are batches that differ from plain(2), each in one part alone.
func unlike() map[string]api.Batch {
	return map[string]api.Batch{
		"Stream":              with(func(b *api.Batch) { b.Stream = "S" }),
		"a longer Stream":     with(func(b *api.Batch) { b.Stream = "ss" }),
		"no Stream":           with(func(b *api.Batch) { b.Stream = "" }),
		"Expect":              with(func(b *api.Batch) { b.Expect = 5 }),
		"Expect below":        with(func(b *api.Batch) { b.Expect = -4 }),
		"Expect by 2^32":      with(func(b *api.Batch) { b.Expect += 1 << 32 }),
		"Session":             with(func(b *api.Batch) { b.Session = 3 }),
		"Session by 2^32":     with(func(b *api.Batch) { b.Session += 1 << 32 }),
		"Seq":                 with(func(b *api.Batch) { b.Seq = 2 }),
		"Seq by 2^32":         with(func(b *api.Batch) { b.Seq += 1 << 32 }),
		"Session and Seq":     with(func(b *api.Batch) { b.Session, b.Seq = b.Seq, b.Session }),
		"no events":           with(func(b *api.Batch) { b.Events = nil }),
		"an event less":       with(func(b *api.Batch) { b.Events = b.Events[:1] }),
		"an event more":       with(func(b *api.Batch) { b.Events = append(b.Events, api.Event{}) }),
		"the first one twice": with(func(b *api.Batch) { b.Events[1] = b.Events[0] }),
		"another order":       with(func(b *api.Batch) { slices.Reverse(b.Events) }),
		"the first Kind":      with(func(b *api.Batch) { b.Events[0].Kind = "x" }),
		"the first Data":      with(func(b *api.Batch) { b.Events[0].Data = "x" }),
		"the last Kind":       with(func(b *api.Batch) { b.Events[1].Kind = "x" }),
		"the last Data":       with(func(b *api.Batch) { b.Events[1].Data = "x" }),
		"Kind and Data":       with(func(b *api.Batch) { b.Events[1].Kind, b.Events[1].Data = b.Events[1].Data, b.Events[1].Kind }),
	}
}

// E1: batches that are unlike in one part alone, and the same ones.
func TestSame(t *testing.T) {
	all := unlike()
	all["nothing"] = plain(2)
	for nameA, a := range all {
		for nameB, b := range all {
			if want := nameA == nameB; event.Same(a, copyOf(b)) != want {
				t.Errorf("Same of one with %s changed and one with %s changed: %t", nameA, nameB, !want)
			}
		}
	}
	for n := range 20 {
		if !event.Same(plain(n), plain(n)) || event.Same(plain(n), plain(n+1)) {
			t.Errorf("Same of %d events", n)
		}
	}
	if !event.Same(api.Batch{}, api.Batch{Events: []api.Event{}}) || !event.Same(api.Batch{Events: some(2)[:0]}, api.Batch{}) {
		t.Error("Same: no events are one, nil or empty")
	}
	if long := slices.Repeat(wrongEvents(), 100); !event.Same(api.Batch{Expect: math.MinInt, Events: long}, api.Batch{Expect: math.MinInt, Events: slices.Clone(long)}) {
		t.Error("Same of what does not fit")
	}
}

// E1: the chapter's example, and other rows of bytes written out.
func TestPut(t *testing.T) {
	long := strings.Repeat("\xff", 200)
	for _, c := range []struct {
		e    api.Event
		want string
	}{
		{api.Event{Kind: "k", Data: "xy"}, "\x01k\x02xy"},
		{api.Event{Kind: "k"}, "\x01k\x00"},
		{api.Event{Kind: "é", Data: "\x00\xff"}, "\x02\xc3\xa9\x02\x00\xff"},
		{api.Event{Kind: "kind", Data: long}, "\x04kind\xc8\x01" + long},
		{api.Event{Kind: strings.Repeat("\U0001f4a7", 32), Data: "x"}, "\x80\x01" + strings.Repeat("\U0001f4a7", 32) + "\x01x"},
	} {
		if got := event.Put(c.e); got != c.want {
			t.Errorf("Put(%q) = %q, want %q", c.e, got, c.want)
		}
	}
	for _, e := range wrongEvents() {
		if got := event.Put(e); got != "" {
			t.Errorf("Put(%.60q) = %q", e, got)
		}
	}
}

// E1: the bytes of batches, written out.
func TestPutBatch(t *testing.T) {
	for _, c := range []struct {
		b    api.Batch
		want string
	}{
		{api.Batch{Stream: "s", Expect: -1, Session: 2, Seq: 3, Events: []api.Event{{Kind: "k", Data: "xy"}, {Kind: "l"}}}, "\x01s\x01\x02\x03\x02\x01k\x02xy\x01l\x00"},
		{api.Batch{Stream: "é", Expect: 0, Session: 1, Seq: 1, Events: []api.Event{{Kind: "k"}}}, "\x02\xc3\xa9\x00\x01\x01\x01\x01k\x00"},
		{api.Batch{Stream: "s", Expect: 64, Session: 128, Seq: 300, Events: []api.Event{{Kind: "k"}}}, "\x01s\x80\x01\x80\x01\xac\x02\x01\x01k\x00"},
		{api.Batch{Stream: "s", Expect: 1 << 38, Session: 1 << 38, Seq: 1 << 38, Events: []api.Event{{Kind: "k"}}}, "\x01s\x80\x80\x80\x80\x80\x10\x80\x80\x80\x80\x80\x08\x80\x80\x80\x80\x80\x08\x01\x01k\x00"},
		{api.Batch{Stream: "s", Expect: 1, Session: 2, Seq: 3, Events: slices.Repeat([]api.Event{{Kind: "k", Data: "x"}}, 8)}, "\x01s\x02\x02\x03\x08" + strings.Repeat("\x01k\x01x", 8)},
	} {
		if got := event.PutBatch(c.b); got != c.want {
			t.Errorf("PutBatch(%v) = %q, want %q", c.b, got, c.want)
		}
	}
}

// E1: nothing is put of what does not fit.
func TestPutBatchOfWrongOnes(t *testing.T) {
	for what, b := range map[string]api.Batch{
		"nothing":         {},
		"no stream":       with(func(b *api.Batch) { b.Stream = "" }),
		"no name":         with(func(b *api.Batch) { b.Stream = "a b" }),
		"Expect below":    with(func(b *api.Batch) { b.Expect = -2 }),
		"Expect above":    with(func(b *api.Batch) { b.Expect = 1<<38 + 1 }),
		"Session 0":       with(func(b *api.Batch) { b.Session = 0 }),
		"Session above":   with(func(b *api.Batch) { b.Session = 1<<38 + 1 }),
		"Seq below":       with(func(b *api.Batch) { b.Seq = -1 }),
		"Seq above":       with(func(b *api.Batch) { b.Seq = math.MaxInt }),
		"no event":        plain(0),
		"nine events":     plain(9),
		"an empty event":  with(func(b *api.Batch) { b.Events[1] = api.Event{} }),
		"data too long":   with(func(b *api.Batch) { b.Events[0].Data = strings.Repeat("x", 201) }),
		"a kind no name":  with(func(b *api.Batch) { b.Events[1].Kind = "a b" }),
		"many, all wrong": {Stream: "s", Session: 1, Seq: 1, Events: make([]api.Event, 1000)},
	} {
		if got := event.PutBatch(b); got != "" {
			t.Errorf("PutBatch of one with %s = %q", what, got)
		}
	}
}

// P3: what is handed in is left as it is, and what is behind a list's length is not looked at.
func TestListsAreLeft(t *testing.T) {
	all := append(some(3), api.Event{Kind: "a b"}, api.Event{})
	front := with(func(b *api.Batch) { b.Events = all[:3] })
	other := with(func(b *api.Batch) { b.Events = some(3) })
	if err := event.Fits(front); err != api.OK {
		t.Errorf("Fits looks behind the length: %d", err)
	}
	if !event.Same(front, other) {
		t.Error("Same looks behind the length")
	}
	if event.PutBatch(front) != event.PutBatch(other) {
		t.Error("PutBatch looks behind the length")
	}
	if !slices.Equal(all, append(some(3), api.Event{Kind: "a b"}, api.Event{})) {
		t.Errorf("changed: %v", all)
	}
}
