package message_test

import (
	"math"
	"reflect"
	"slices"
	"strings"
	"testing"

	"bucketline/api"
	"bucketline/event"
	"bucketline/message"
	"bucketline/record"
)

func batch() api.Batch {
	return api.Batch{Stream: "s", Expect: 4, Session: 2, Seq: 3, Events: []api.Event{{Kind: "k", Data: "xy"}, {Kind: "l"}}}
}

func entry(pos int) api.Entry {
	return api.Entry{Pos: pos, Epoch: 5, B: batch()}
}

const (
	batchBytes = "\x01s\x08\x02\x03\x02\x01k\x02xy\x01l\x00"
	entryBytes = "\x07\x05" + batchBytes
)

type sample struct {
	m     message.Message
	bytes string
	epoch int
}

// samples are one of each kind, in the order of the kinds, no two of their numbers alike.
func samples() []sample {
	return []sample{
		{message.Beat{Node: 1, Epoch: 2, Last: 300}, "\x01\x01\x02\xac\x02", 2},
		{message.Join{Node: 5, Boot: 7}, "\x02\x05\x07", 0},
		{message.Lease{Epoch: 3, Until: 4}, "\x03\x03\x04", 3},
		{message.View{Epoch: 7, Chain: []int{3, 1}, Since: []int{4, 8, 9}, Boot: []int{6}}, "\x04\x07\x02\x03\x01\x03\x04\x08\x09\x01\x06", 7},
		{message.Where{Id: 9}, "\x05\x09", 0},
		{message.Have{Epoch: 9, Node: 2, Last: 6, Marks: []api.Mark{{Epoch: 1, First: 3}, {Epoch: 4, First: 5}}}, "\x06\x09\x02\x06\x02\x01\x03\x04\x05", 9},
		{message.Logs{Epoch: 11, Node: 2, Prev: 3, PrevEpoch: 4, Sync: 5, Commit: 6, Entries: []api.Entry{entry(7)}}, "\x07\x0b\x02\x03\x04\x05\x06\x01" + entryBytes, 11},
		{message.Ack{Epoch: 1, Node: 2, Commit: 300}, "\x08\x01\x02\xac\x02", 1},
		{message.Ask{Epoch: 8, Node: 2, Boot: 4, Id: 3}, "\x09\x08\x02\x04\x03", 8},
		{message.Told{Epoch: 6, Boot: 4, Id: 2, Commit: 3}, "\x0a\x06\x04\x02\x03", 6},
		{message.Append{Id: 9, B: batch()}, "\x0b\x09" + batchBytes, 0},
		{message.Read{Id: 1, Stream: "st", From: 2}, "\x0c\x01\x02st\x02", 0},
		{message.Reply{Id: 1, Err: 2, Out: api.Outcome{Code: 3, Pos: 4, First: 5, Version: 6}}, "\x0d\x01\x02\x03\x04\x05\x06", 0},
		{message.Result{Id: 1, Err: 2, Version: 3, Events: []api.Event{{Kind: "k", Data: "x"}, {Kind: "l"}}}, "\x0e\x01\x02\x03\x02\x01k\x01x\x01l\x00", 0},
	}
}

// fullSamples have all that is right of all: numbers, and parts of lists.
func fullSamples() []message.Message {
	const n = 1 << 38
	long := slices.Repeat([]int{n}, 6)
	greatest := api.Event{Kind: strings.Repeat("\U0001f4a7", 32), Data: strings.Repeat("\xff", 200)}
	full := api.Batch{Stream: greatest.Kind, Expect: n, Session: n, Seq: n, Events: slices.Repeat([]api.Event{greatest}, 8)}
	return []message.Message{
		message.Beat{Node: n, Epoch: n, Last: n},
		message.Join{Node: n, Boot: n},
		message.Lease{Epoch: n, Until: n},
		message.View{Epoch: n, Chain: long, Since: long, Boot: long},
		message.Where{Id: n},
		message.Have{Epoch: n, Node: n, Last: n, Marks: slices.Repeat([]api.Mark{{Epoch: n, First: n}}, 30)},
		message.Logs{Epoch: n, Node: n, Prev: n, PrevEpoch: n, Sync: n, Commit: n, Entries: slices.Repeat([]api.Entry{{Pos: n, Epoch: n, B: full}}, 8)},
		message.Ack{Epoch: n, Node: n, Commit: n},
		message.Ask{Epoch: n, Node: n, Boot: n, Id: n},
		message.Told{Epoch: n, Boot: n, Id: n, Commit: n},
		message.Append{Id: n, B: full},
		message.Read{Id: n, Stream: greatest.Kind, From: n},
		message.Reply{Id: n, Err: n, Out: api.Outcome{Code: n, Pos: n, First: n, Version: n}},
		message.Result{Id: n, Err: n, Version: n, Events: slices.Repeat([]api.Event{greatest}, 16)},
	}
}

// emptySamples have as little as is right.
func emptySamples() []message.Message {
	least := api.Batch{Stream: "s", Expect: -1, Session: 1, Seq: 1, Events: []api.Event{{Kind: "k"}}}
	return []message.Message{
		message.Beat{}, message.Join{}, message.Lease{}, message.View{}, message.Where{}, message.Have{}, message.Logs{}, message.Ack{}, message.Ask{}, message.Told{},
		message.Append{B: least}, message.Read{Stream: "s"}, message.Reply{}, message.Result{},
		message.View{Chain: []int{}, Since: []int{}, Boot: []int{}}, message.Have{Marks: []api.Mark{}}, message.Logs{Entries: []api.Entry{}}, message.Result{Events: []api.Event{}},
	}
}

// rightSamples reach the edges of each kind.
func rightSamples() []message.Message {
	out := slices.Concat(fullSamples(), emptySamples())
	for _, s := range samples() {
		out = append(out, s.m)
		for _, n := range []int{0, 1, 127, 128, 300, 16384, 1 << 32, 1<<38 - 1, 1 << 38} {
			settings(s.m, n, func(_ string, changed message.Message) { out = append(out, copyOf(changed)) })
		}
	}
	return out
}

// copyOf has lists of numbers and marks of its own: settings changes its own in place.
func copyOf(m message.Message) message.Message {
	switch m := m.(type) {
	case message.View:
		return message.View{Epoch: m.Epoch, Chain: slices.Clone(m.Chain), Since: slices.Clone(m.Since), Boot: slices.Clone(m.Boot)}
	case message.Have:
		m.Marks = slices.Clone(m.Marks)
		return m
	}
	return m
}

// misfits are batches that do not fit.
func misfits() []api.Batch {
	var out []api.Batch
	for _, change := range []func(b *api.Batch){
		func(b *api.Batch) { *b = api.Batch{} },
		func(b *api.Batch) { b.Stream = "" },
		func(b *api.Batch) { b.Stream = "a b" },
		func(b *api.Batch) { b.Expect = -2 },
		func(b *api.Batch) { b.Expect = 1<<38 + 1 },
		func(b *api.Batch) { b.Session = 0 },
		func(b *api.Batch) { b.Seq = 1<<38 + 1 },
		func(b *api.Batch) { b.Events = nil },
		func(b *api.Batch) { b.Events = slices.Repeat(b.Events[:1], 9) },
		func(b *api.Batch) { b.Events[1].Kind = "" },
		func(b *api.Batch) { b.Events[0].Data = strings.Repeat("x", 201) },
	} {
		b := batch()
		change(&b)
		out = append(out, b)
	}
	return out
}

func wrongEntries() []api.Entry {
	out := []api.Entry{{}, {Pos: 0, Epoch: 1, B: batch()}, {Pos: 1, Epoch: 0, B: batch()}, {Pos: 1<<38 + 1, Epoch: 1, B: batch()}, {Pos: 1, Epoch: -1, B: batch()}}
	for _, b := range misfits() {
		out = append(out, api.Entry{Pos: 1, Epoch: 1, B: b})
	}
	return out
}

func wrongEvents() []api.Event {
	return []api.Event{{}, {Kind: "a b"}, {Kind: "\xff"}, {Data: "x"}, {Kind: strings.Repeat("x", 33)}, {Kind: "k", Data: strings.Repeat("x", 201)}}
}

func noNames() []string {
	return []string{"", " ", "a b", "a\n", "\xff", "a\xff", "\"s\"", strings.Repeat("x", 33), strings.Repeat("\u00e4", 33), strings.Repeat("x", 200), strings.Repeat("x", 201), strings.Repeat("x", 1<<20)}
}

// withWrong are lists of 1 to most parts, with one that is wrong at each place.
func withWrong[P any](good, wrong P, most int) [][]P {
	var out [][]P
	for n := 1; n <= most; n++ {
		for place := range n {
			l := slices.Repeat([]P{good}, n)
			l[place] = wrong
			out = append(out, l)
		}
	}
	return out
}

// wrongSamples are not right, each by one part alone.
func wrongSamples() []message.Message {
	var out []message.Message
	for _, s := range samples() {
		for _, n := range []int{math.MinInt, -1 << 38, -1, 1<<38 + 1, 1 << 39, 1 << 40, 1<<40 + 1, math.MaxInt} {
			settings(s.m, n, func(_ string, changed message.Message) { out = append(out, copyOf(changed)) })
		}
	}
	for _, n := range []int{-1, 1<<38 + 1} {
		for _, l := range withWrong(1, n, 6) {
			out = append(out, message.View{Chain: l}, message.View{Since: l}, message.View{Boot: l})
		}
		for _, l := range withWrong(api.Mark{Epoch: 1, First: 1}, api.Mark{Epoch: n, First: 1}, 30) {
			out = append(out, message.Have{Marks: l})
		}
		for _, l := range withWrong(api.Mark{}, api.Mark{First: n}, 30) {
			out = append(out, message.Have{Marks: l})
		}
	}
	for _, e := range wrongEntries() {
		for _, l := range withWrong(entry(7), e, 8) {
			out = append(out, message.Logs{Entries: l})
		}
	}
	for _, e := range wrongEvents() {
		for _, l := range withWrong(api.Event{Kind: "k"}, e, 16) {
			out = append(out, message.Result{Events: l})
		}
	}
	for _, b := range misfits() {
		out = append(out, message.Append{Id: 1, B: b})
	}
	for _, name := range noNames() {
		out = append(out, message.Read{Id: 1, Stream: name, From: 1})
	}
	return append(out, longSamples()...)
}

// longSamples have lists of too many parts, all of them right.
func longSamples() []message.Message {
	var out []message.Message
	for _, n := range []int{7, 8, 127, 128, 1 << 16} {
		l := make([]int, n)
		out = append(out, message.View{Chain: l}, message.View{Since: l}, message.View{Boot: l})
	}
	for _, n := range []int{31, 32, 127, 128, 1 << 16} {
		out = append(out, message.Have{Marks: make([]api.Mark, n)})
	}
	for _, n := range []int{9, 10, 127, 128, 1 << 10} {
		out = append(out, message.Logs{Entries: slices.Repeat([]api.Entry{entry(1)}, n)})
	}
	for _, n := range []int{17, 18, 127, 128, 1 << 10} {
		out = append(out, message.Result{Events: slices.Repeat([]api.Event{{Kind: "k"}}, n)})
	}
	return out
}

type own struct{}

func (own) Kind() int { return message.KBeat }

type panicking struct{}

func (panicking) Kind() int { panic("asked for its kind") }

type embedding struct{ message.Beat }

type holding struct{ message.Message }

// strangers are messages by their methods, but none of the fourteen.
func strangers() []message.Message {
	out := []message.Message{nil, own{}, &own{}, panicking{}, (*panicking)(nil), embedding{}, &embedding{}, (*embedding)(nil), holding{message.Beat{}}, holding{}}
	for _, s := range samples() {
		pointer := reflect.New(reflect.TypeOf(s.m))
		pointer.Elem().Set(reflect.ValueOf(s.m))
		out = append(out, pointer.Interface().(message.Message), reflect.Zero(pointer.Type()).Interface().(message.Message))
	}
	return out
}

// Words: the number of each kind.
func TestKind(t *testing.T) {
	named := []int{message.KBeat, message.KJoin, message.KLease, message.KView, message.KWhere, message.KHave, message.KLogs, message.KAck, message.KAsk, message.KTold, message.KAppend, message.KRead, message.KReply, message.KResult}
	if len(named) != len(samples()) {
		t.Fatal("not all kinds are tried")
	}
	for i, s := range samples() {
		if got := s.m.Kind(); got != i+1 || named[i] != i+1 {
			t.Errorf("Kind of %T = %d, named %d, want %d", s.m, got, named[i], i+1)
		}
	}
	for i, m := range fullSamples() {
		if m.Kind() != i+1 {
			t.Errorf("Kind of %T = %d", m, m.Kind())
		}
	}
}

// M1: each number of each kind, at its bounds.
func TestRightOfNumbers(t *testing.T) {
	tried := 0
	for _, n := range []int{math.MinInt, -1 << 40, -1 << 38, -1, 0, 1, 127, 128, 1<<32 + 1, 1<<38 - 1, 1 << 38, 1<<38 + 1, 1 << 39, 1 << 40, 1<<40 + 1, math.MaxInt} {
		want := 0 <= n && n <= 274877906944
		for _, s := range samples() {
			settings(s.m, n, func(what string, changed message.Message) {
				tried++
				if got := message.Right(changed); got != want {
					t.Errorf("Right with %s %d: %t", what, n, got)
				}
			})
		}
	}
	if tried != 16*51 {
		t.Errorf("%d numbers were tried", tried)
	}
}

// M1: lists of as many parts as are right, and of one more.
func TestRightOfLists(t *testing.T) {
	for n := range 40 {
		numbers := slices.Repeat([]int{1}, n)
		for what, c := range map[string]struct {
			m    message.Message
			most int
		}{
			"Chain":   {message.View{Chain: numbers}, 6},
			"Since":   {message.View{Since: numbers}, 6},
			"Boot":    {message.View{Boot: numbers}, 6},
			"Marks":   {message.Have{Marks: slices.Repeat([]api.Mark{{Epoch: 2, First: 1}}, n)}, 30},
			"Entries": {message.Logs{Entries: slices.Repeat([]api.Entry{entry(3)}, n)}, 8},
			"Events":  {message.Result{Events: slices.Repeat([]api.Event{{Kind: "k"}}, n)}, 16},
		} {
			if got, want := message.Right(c.m), n <= c.most; got != want {
				t.Errorf("Right with %d %s: %t", n, what, got)
			}
		}
	}
}

// M1: what reaches the edges is right; lists of a View need not be of one length, marks and entries need not rise.
func TestRight(t *testing.T) {
	for _, m := range append(rightSamples(),
		message.View{Chain: []int{1, 1}, Since: []int{9}},
		message.Have{Marks: []api.Mark{{Epoch: 5, First: 5}, {Epoch: 1, First: 1}, {}}},
		message.Logs{Epoch: 1, Prev: 9, Entries: []api.Entry{entry(7), entry(7), entry(1)}},
		message.Reply{Err: 99, Out: api.Outcome{Code: 77}},
		message.Result{Err: 99, Events: []api.Event{{Kind: "k"}}},
		message.Read{Stream: strings.Repeat("\u00e4", 32)},
	) {
		if !message.Right(m) || !rightPart(reflect.ValueOf(m)) {
			t.Errorf("Right(%T%.80v): false", m, m)
		}
	}
}

// M1: what is not right has no bytes, and no epoch.
func TestWrong(t *testing.T) {
	for _, m := range wrongSamples() {
		if rightPart(reflect.ValueOf(m)) {
			t.Fatalf("%T%.80v is right", m, m)
		}
		if message.Right(m) {
			t.Errorf("Right(%T%.80v): true", m, m)
		}
		if s := message.Put(m); s != "" {
			t.Errorf("Put(%T%.80v) = %.60q", m, m, s)
		}
		if n := message.Epoch(m); n != 0 {
			t.Errorf("Epoch(%T%.80v) = %d", m, m, n)
		}
	}
}

// M1, P1: nil, pointers (to nothing too) and other types are not right; none is asked for its kind.
func TestStrangers(t *testing.T) {
	for i, m := range strangers() {
		if message.Right(m) || message.Put(m) != "" || message.Epoch(m) != 0 {
			t.Errorf("the stranger %d (%T): %t, %q, %d", i, m, message.Right(m), message.Put(m), message.Epoch(m))
		}
	}
}

// M1: the chapter's example, and the bytes of each kind.
func TestPut(t *testing.T) {
	if s := message.Put(message.Ack{Epoch: 1, Node: 2, Commit: 300}); s != "\x08\x01\x02\xac\x02" {
		t.Errorf("Put(Ack 1, 2, 300) = %q", s)
	}
	for _, s := range samples() {
		if got := message.Put(s.m); got != s.bytes {
			t.Errorf("Put(%T%v) = %q, want %q", s.m, s.m, got, s.bytes)
		}
	}
	for want, m := range map[string]message.Message{
		"\x01\x00\x00\x00":                 message.Beat{},
		"\x04\x00\x00\x00\x00":             message.View{},
		"\x06\x00\x00\x00\x00":             message.Have{},
		"\x07\x00\x00\x00\x00\x00\x00\x00": message.Logs{},
		"\x0d\x00\x00\x00\x00\x00\x00":     message.Reply{},
		"\x0e\x00\x00\x00\x00":             message.Result{},
		"\x05\x80\x80\x80\x80\x80\x08":     message.Where{Id: 1 << 38},
		"\x0c\x00\x02\u00e4\x00":           message.Read{Stream: "\u00e4"},
	} {
		if got := message.Put(m); got != want {
			t.Errorf("Put(%T%v) = %q, want %q", m, m, got, want)
		}
	}
}

// M1: the bytes of the fields in their order, at the edges.
func TestPutOfEdges(t *testing.T) {
	for _, m := range rightSamples() {
		if got, want := message.Put(m), string(rune(m.Kind()))+putPart(reflect.ValueOf(m)); got != want {
			t.Errorf("Put(%T%.80v) = %.60q, want %.60q", m, m, got, want)
		}
	}
}

// M1: the epoch of each kind, at the edges; 0 of kinds that have none.
func TestEpoch(t *testing.T) {
	for _, s := range samples() {
		if got := message.Epoch(s.m); got != s.epoch {
			t.Errorf("Epoch(%T%v) = %d, want %d", s.m, s.m, got, s.epoch)
		}
	}
	for _, m := range rightSamples() {
		want := 0
		if f := reflect.ValueOf(m).FieldByName("Epoch"); f.IsValid() {
			want = int(f.Int())
		}
		if got := message.Epoch(m); got != want {
			t.Errorf("Epoch(%T%.80v) = %d, want %d", m, m, got, want)
		}
	}
}

// P3: what is handed in is not written into, and nothing behind a list's length is read.
func TestNothingIsWrittenInto(t *testing.T) {
	numbers := []int{1, 2, -7}
	marks := []api.Mark{{Epoch: 1, First: 1}, {Epoch: -1, First: -1}}
	entries := []api.Entry{entry(1), {}}
	events := []api.Event{{Kind: "k", Data: "x"}, {}}
	for _, m := range []message.Message{
		message.View{Epoch: 3, Chain: numbers[:2], Since: numbers[:1], Boot: numbers[:0]},
		message.Have{Epoch: 3, Marks: marks[:1]},
		message.Logs{Epoch: 3, Entries: entries[:1]},
		message.Result{Version: 3, Events: events[:1]},
	} {
		if s := message.Put(m); !message.Right(m) || s != string(rune(m.Kind()))+putPart(reflect.ValueOf(m)) {
			t.Errorf("Put(%T%v) = %q", m, m, s)
		}
		message.Epoch(m)
	}
	if !slices.Equal(numbers, []int{1, 2, -7}) ||
		!slices.Equal(marks, []api.Mark{{Epoch: 1, First: 1}, {Epoch: -1, First: -1}}) ||
		!record.Same(entries[0], entry(1)) || !record.Same(entries[1], api.Entry{}) ||
		!slices.Equal(events, []api.Event{{Kind: "k", Data: "x"}, {}}) {
		t.Errorf("%v, %v, %v, %v", numbers, marks, entries, events)
	}
	if b := batch(); message.Put(message.Append{Id: 1, B: b}) == "" || !event.Same(b, batch()) {
		t.Errorf("%v", b)
	}
}
