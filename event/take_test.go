package event_test

import (
	"slices"
	"strings"
	"testing"

	"bucketline/api"
	"bucketline/event"
	"bucketline/num"
	"bucketline/text"
)

// tails are bytes that may stand behind what was put, among them such as would go on with it.
func tails() []string {
	return []string{"", "\x00", "\x01", "k", "\x80", "\xff", "more", "\x01k\x00", "\x00\x00", strings.Repeat("\x80", 9), event.Put(api.Event{Kind: "k", Data: "xy"}), event.PutBatch(plain(1))}
}

// right follows the chapter's words.
func right(e api.Event) bool {
	return text.Name(e.Kind) && len(e.Data) < 201
}

// take follows E2, one word after another; of what it answers beside an error only the error counts.
func take(s string) (e api.Event, rest string, err api.Errno) {
	if e, rest, err = takeTexts(s); err != api.OK {
		return e, rest, err
	}
	if !right(e) {
		return e, rest, api.ErrForm
	}
	return e, rest, api.OK
}

func takeTexts(s string) (e api.Event, rest string, err api.Errno) {
	if e.Kind, rest, err = num.TakeText(s, 200); err != api.OK {
		return e, rest, err
	}
	e.Data, rest, err = num.TakeText(rest, 200)
	return e, rest, err
}

// fits follows E1, without telling which error it is.
func fits(b api.Batch) bool {
	for _, n := range []int{b.Session, b.Seq, b.Expect + 2} {
		if n < 1 {
			return false
		}
	}
	if max(b.Session, b.Seq, b.Expect) > 274877906944 || len(b.Events) < 1 || len(b.Events) > 8 {
		return false
	}
	return text.Name(b.Stream) && !slices.ContainsFunc(b.Events, func(e api.Event) bool { return !right(e) })
}

// takeBatch follows E2, like take.
func takeBatch(s string) (b api.Batch, rest string, err api.Errno) {
	if b.Stream, rest, err = num.TakeText(s, 200); err != api.OK {
		return b, rest, err
	}
	if b.Expect, rest, err = num.TakeInt(rest); err != api.OK {
		return b, rest, err
	}
	if b.Session, rest, err = num.Take(rest); err != api.OK {
		return b, rest, err
	}
	if b.Seq, rest, err = num.Take(rest); err != api.OK {
		return b, rest, err
	}
	count := 0
	if count, rest, err = num.Take(rest); err != api.OK {
		return b, rest, err
	}
	if count > 8 {
		return b, rest, api.ErrLong
	}
	for range count {
		var e api.Event
		if e, rest, err = takeTexts(rest); err != api.OK {
			return b, rest, err
		}
		b.Events = append(b.Events, e)
	}
	if !fits(b) {
		return b, rest, api.ErrForm
	}
	return b, rest, api.OK
}

func isNothing(b api.Batch) bool {
	return b.Stream == "" && b.Expect == 0 && b.Session == 0 && b.Seq == 0 && len(b.Events) == 0
}

func sameBatch(a, b api.Batch) bool {
	return a.Stream == b.Stream && a.Expect == b.Expect && a.Session == b.Session && a.Seq == b.Seq && slices.Equal(a.Events, b.Events)
}

func checkTake(t *testing.T, s string) {
	t.Helper()
	e, rest, err := event.Take(s)
	want, wantRest, wantErr := take(s)
	if wantErr != api.OK {
		want, wantRest = api.Event{}, ""
	}
	if e != want || rest != wantRest || err != wantErr {
		t.Fatalf("Take(%.60q) = %.60q, %.60q, %d, want %.60q, %.60q, %d", s, e, rest, err, want, wantRest, wantErr)
	}
	if err == api.OK && event.Put(e)+rest != s {
		t.Fatalf("Take(%.60q) = %.60q, which is put otherwise", s, e)
	}
}

func checkTakeBatch(t *testing.T, s string) {
	t.Helper()
	b, rest, err := event.TakeBatch(s)
	want, wantRest, wantErr := takeBatch(s)
	if wantErr != api.OK {
		want, wantRest = api.Batch{}, ""
	}
	if !sameBatch(b, want) || rest != wantRest || err != wantErr {
		t.Fatalf("TakeBatch(%.60q) = %.60v, %.60q, %d, want %.60v, %.60q, %d", s, b, rest, err, want, wantRest, wantErr)
	}
	if err == api.OK && event.PutBatch(b)+rest != s {
		t.Fatalf("TakeBatch(%.60q) = %.60v, which is put otherwise", s, b)
	}
}

func noEvent(t *testing.T, what, s string, want api.Errno) {
	t.Helper()
	if e, rest, err := event.Take(s); e != (api.Event{}) || rest != "" || err != want {
		t.Errorf("Take of %s = %.60q, %.60q, %d, want %d", what, e, rest, err, want)
	}
}

func noBatch(t *testing.T, what, s string, want api.Errno) {
	t.Helper()
	if b, rest, err := event.TakeBatch(s); !isNothing(b) || rest != "" || err != want {
		t.Errorf("TakeBatch of %s = %.60v, %.60q, %d, want %d", what, b, rest, err, want)
	}
}

// rightEvents reach the edges of both texts.
func rightEvents() []api.Event {
	var events []api.Event
	for _, kind := range someNames() {
		for _, data := range []string{"", "x", "xy", "\x00", "\xff\x80", "a b", strings.Repeat("x", 127), strings.Repeat("\x80", 128), strings.Repeat("\xff", 199), strings.Repeat("\x00", 200)} {
			events = append(events, api.Event{Kind: kind, Data: data})
		}
	}
	return events
}

// E3: what was put is taken, whatever is behind; with a byte less, or more of them, it is not whole.
func TestTakeOfPut(t *testing.T) {
	for _, e := range rightEvents() {
		s := event.Put(e)
		for _, tail := range tails() {
			if got, rest, err := event.Take(s + tail); got != e || rest != tail || err != api.OK {
				t.Fatalf("Take of Put(%.60q) with %.60q = %.60q, %.60q, %d", e, tail, got, rest, err)
			}
		}
		for end := range len(s) {
			noEvent(t, "a cut event", s[:end], api.ErrShort)
		}
	}
}

// E2: each error of each text, and their order where more than one would do.
func TestTakeOfWrongBytes(t *testing.T) {
	long := "\xc9\x01" + strings.Repeat("x", 201)
	full := "\xc8\x01" + strings.Repeat("x", 200)
	for _, c := range []struct {
		what, s string
		want    api.Errno
	}{
		{"no byte", "", api.ErrShort},
		{"a kind alone", "\x01k", api.ErrShort},
		{"a kind that is cut", "\x02k", api.ErrShort},
		{"data that is cut", "\x01k\x02x", api.ErrShort},
		{"a length of the kind that is cut", "\x80", api.ErrShort},
		{"a length of the data that is cut", "\x01k\x80", api.ErrShort},
		{"a kind of 201 bytes", long + "\x00", api.ErrLong},
		{"a kind of 201 bytes of which none is there", "\xc9\x01", api.ErrLong},
		{"a kind of 2^40 bytes", "\x80\x80\x80\x80\x80\x20", api.ErrLong},
		{"a kind of more than 2^40 bytes", "\x81\x80\x80\x80\x80\x20", api.ErrLong},
		{"a kind of 200 bytes of which one is missing", full[:201], api.ErrShort},
		{"a kind of 200 bytes", full + "\x00", api.ErrForm},
		{"a kind of 33 bytes", "\x21" + strings.Repeat("x", 33) + "\x00", api.ErrForm},
		{"data of 201 bytes", "\x01k" + long, api.ErrLong},
		{"data of 201 bytes of which none is there", "\x01k\xc9\x01", api.ErrLong},
		{"data of 200 bytes of which one is missing", "\x01k" + full[:201], api.ErrShort},
		{"a length of the kind with a group too many", "\x81\x00k\x00", api.ErrForm},
		{"a length of the kind with seven groups", strings.Repeat("\x80", 7), api.ErrForm},
		{"a length of the data with a group too many", "\x01k\x81\x00x", api.ErrForm},
		{"a kind of no byte", "\x00\x00", api.ErrForm},
		{"a kind of no byte with bytes behind", "\x00\x01xmore", api.ErrForm},
		{"a kind that is no name", "\x03a b\x00", api.ErrForm},
		{"a kind that is no name, of a byte that begins no rune", "\x01\xff\x00", api.ErrForm},
		{"a kind that is no name, and no data", "\x01 ", api.ErrShort},
		{"a kind that is no name, and data that is cut", "\x01 \x05x", api.ErrShort},
		{"a kind that is no name, and data of 201 bytes", "\x01 " + long, api.ErrLong},
		{"a kind of no byte, and data of 201 bytes", "\x00" + long, api.ErrLong},
		{"a kind of 201 bytes, and data that is wrong", long + "\x81\x00", api.ErrLong},
		{"a kind with a group too many, and data of 201 bytes", "\x81\x00k" + long, api.ErrForm},
	} {
		noEvent(t, c.what, c.s, c.want)
	}
	for _, kind := range noNames() {
		if len(kind) <= 200 {
			noEvent(t, "a kind that is no name", num.PutText(kind)+"\x01x", api.ErrForm)
		}
	}
}

// rows calls f with each row of up to most of the bytes.
func rows(bytes string, most int, f func(string)) {
	var grow func(s string, left int)
	grow = func(s string, left int) {
		f(s)
		if left == 0 {
			return
		}
		for i := range len(bytes) {
			grow(s+bytes[i:i+1], left-1)
		}
	}
	grow("", most)
}

// E2: all short rows of bytes that matter, against the word-by-word reading.
func TestTakeOfRows(t *testing.T) {
	rows("\x00\x01\x02k\x80\xc9\xff ", 6, func(s string) { checkTake(t, s) })
}

// rightBatches reach the edges of each part.
func rightBatches() []api.Batch {
	var batches []api.Batch
	for n := 1; n <= 8; n++ {
		batches = append(batches, plain(n))
	}
	for _, n := range []int{1, 2, 63, 64, 127, 128, 16384, 1 << 32, 1<<38 - 1, 1 << 38} {
		batches = append(batches,
			with(func(b *api.Batch) { b.Expect = n }),
			with(func(b *api.Batch) { b.Session = n }),
			with(func(b *api.Batch) { b.Seq = n }))
	}
	for _, name := range someNames() {
		batches = append(batches, with(func(b *api.Batch) { b.Stream = name }))
	}
	greatest := api.Event{Kind: strings.Repeat("\U0001f4a7", 32), Data: strings.Repeat("\xff", 200)}
	return append(batches,
		with(func(b *api.Batch) { b.Expect = -1 }),
		with(func(b *api.Batch) { b.Expect = 0 }),
		with(func(b *api.Batch) { b.Events = rightEvents()[:8] }),
		api.Batch{Stream: greatest.Kind, Expect: 1 << 38, Session: 1 << 38, Seq: 1 << 38, Events: slices.Repeat([]api.Event{greatest}, 8)})
}

// E3: what was put is taken, whatever is behind; with a byte less, or more of them, it is not whole.
func TestTakeBatchOfPutBatch(t *testing.T) {
	for _, b := range rightBatches() {
		s := event.PutBatch(b)
		for _, tail := range tails() {
			if got, rest, err := event.TakeBatch(s + tail); !sameBatch(got, b) || rest != tail || err != api.OK {
				t.Fatalf("TakeBatch of PutBatch(%.60v) with %.60q = %.60v, %.60q, %d", b, tail, got, rest, err)
			}
		}
		for end := range len(s) {
			noBatch(t, "a cut batch", s[:end], api.ErrShort)
		}
	}
}

// The parts of a batch's bytes: the stream, Expect, Session, Seq, and a count with one event.
var parts = [5]string{"\x01s", "\x01", "\x02", "\x03", "\x01\x01k\x00"}

func join(changed [5]string) string {
	return strings.Join(changed[:], "")
}

// E2: each part with each error of its own; each of them is told ahead of those of the parts behind it.
func TestTakeBatchTellsTheFirstError(t *testing.T) {
	const needless, tooMany, above = "\x81\x00", "\x80\x80\x80\x80\x80\x80\x80", "\x81\x80\x80\x80\x80\x20"
	long := "\xc9\x01" + strings.Repeat("x", 201)
	wrong := map[api.Errno][5][]string{
		api.ErrForm: {
			{needless + "s", tooMany},
			{needless, tooMany},
			{needless, tooMany},
			{needless, tooMany},
			{needless + "\x01k\x00", tooMany, "\x01" + needless + "k\x00", "\x01\x01k" + needless + "x", "\x02\x01k\x00" + needless + "k\x00"},
		},
		api.ErrLong: {
			{long, "\xc9\x01", above},
			{above, "\xff\xff\xff\xff\xff\x7f"},
			{above, "\xff\xff\xff\xff\xff\x7f"},
			{above, "\xff\xff\xff\xff\xff\x7f"},
			{"\x09", "\x09" + strings.Repeat("\x01k\x00", 9), "\x80\x80\x80\x80\x80\x20", above, "\x01" + long + "\x00", "\x01\x01k" + long, "\x02\x01k\x00\x01k\xc9\x01"},
		},
	}
	for want, forms := range wrong {
		for place, rows := range forms {
			for _, row := range rows {
				changed := parts
				changed[place] = row
				noBatch(t, "a part that is wrong", join(changed), want)
				checkTakeBatch(t, join(changed))
				for behind := place + 1; behind < len(parts); behind++ {
					for _, others := range wrong {
						for _, other := range others[behind] {
							twice := changed
							twice[behind] = other
							noBatch(t, "two parts that are wrong", join(twice), want)
						}
					}
				}
			}
		}
	}
}

// misfits are parts that are whole, with which the batch does not fit.
func misfits() [5][]string {
	var out [5][]string
	for _, name := range noNames() {
		if len(name) <= 200 {
			out[0] = append(out[0], num.PutText(name))
		}
	}
	for _, n := range []int{-1 << 39, -1 << 38, -3, -2, 1<<38 + 1, 1 << 39} {
		out[1] = append(out[1], num.PutInt(n))
	}
	for _, n := range []int{0, 1<<38 + 1, 1 << 39, 1 << 40} {
		out[2] = append(out[2], num.Put(n))
	}
	out[3] = out[2]
	out[4] = []string{"\x00", "\x00\x01k\x00", "\x01\x00\x00", "\x01\x01 \x00", "\x01\x01\xff\x01x", "\x02\x01k\x00\x01 \x00", "\x02\x01 \x00\x01k\x00", "\x01\x21" + strings.Repeat("x", 33) + "\x00"}
	return out
}

// E2: what is whole, but does not fit, is ErrForm; that is told behind the errors of all parts.
func TestTakeBatchTellsMisfitsAtLast(t *testing.T) {
	for place, rows := range misfits() {
		for _, row := range rows {
			changed := parts
			changed[place] = row
			noBatch(t, "a part that does not fit", join(changed), api.ErrForm)
			noBatch(t, "a part that does not fit, with bytes behind", join(changed)+"more", api.ErrForm)
			for behind := place + 1; behind < len(parts); behind++ {
				cut := strings.Join(changed[:behind], "")
				noBatch(t, "a part that does not fit, and none behind", cut, api.ErrShort)
				above := changed
				above[behind] = "\x81\x80\x80\x80\x80\x20"
				noBatch(t, "a part that does not fit, and a number too great", join(above), api.ErrLong)
			}
			if place < 4 {
				nine := changed
				nine[4] = "\x09"
				noBatch(t, "a part that does not fit, and nine events", join(nine), api.ErrLong)
			}
		}
	}
}

// E2: an event that is not right, at each place, is told behind the errors of the events behind it.
func TestTakeBatchOfWrongEvents(t *testing.T) {
	for n := 1; n <= 8; n++ {
		for place := range n {
			whole := slices.Repeat([]string{"\x01k\x01x"}, n)
			whole[place] = "\x01 \x01x"
			head := "\x01s\x01\x02\x03" + num.Put(n)
			s := head + strings.Join(whole, "")
			noBatch(t, "an event that is not right", s, api.ErrForm)
			noBatch(t, "an event that is not right, with bytes behind", s+"\x01k\x01x", api.ErrForm)
			if place == n-1 {
				continue
			}
			noBatch(t, "an event that is not right, and one that is cut", s[:len(s)-1], api.ErrShort)
			whole[n-1] = "\x01k\xc9\x01"
			noBatch(t, "an event that is not right, and one with long data", head+strings.Join(whole, ""), api.ErrLong)
			whole[n-1] = "\xc9\x01"
			noBatch(t, "an event that is not right, and one with a long kind", head+strings.Join(whole, ""), api.ErrLong)
		}
	}
}

// E2: how many events there are, and are said to be.
func TestTakeBatchOfManyEvents(t *testing.T) {
	const head, one = "\x01s\x01\x02\x03", "\x01k\x00"
	for count := range 128 {
		for there := range 12 {
			checkTakeBatch(t, head+string(rune(count))+strings.Repeat(one, there))
		}
		s := head + string(rune(count)) + strings.Repeat(one, 200)
		switch b, rest, err := event.TakeBatch(s); {
		case count == 0:
			noBatch(t, "no events", s, api.ErrForm)
		case count > 8:
			noBatch(t, "more than 8 events", s, api.ErrLong)
		case err != api.OK || len(b.Events) != count || rest != strings.Repeat(one, 200-count):
			t.Errorf("TakeBatch of %d events = %v, %d", count, b, err)
		}
	}
}

// E2: all short rows behind each beginning of a batch, and a batch with each byte another one, against the word-by-word reading.
func TestTakeBatchOfRows(t *testing.T) {
	s := "\x01s\x01\x02\x03\x02\x01k\x02xy\x01l\x00"
	for begin := range len(s) + 1 {
		rows("\x00\x01\x02\x09k\x80\xff ", 4, func(row string) { checkTakeBatch(t, s[:begin]+row) })
	}
	for place := range len(s) {
		for b := range 256 {
			checkTakeBatch(t, s[:place]+string([]byte{byte(b)})+s[place+1:]+"\x01k\x00")
			checkTakeBatch(t, s[:place]+string([]byte{byte(b)})+s[place:])
		}
		for end := place; end <= len(s); end++ {
			checkTakeBatch(t, s[:place]+s[end:])
			checkTakeBatch(t, s[:place]+s[end:]+s)
		}
	}
}

// P3, P4: each answer has a list of its own, and hangs on nothing that was taken before.
func TestTakenListsAreNew(t *testing.T) {
	s := event.PutBatch(plain(8))
	first, _, _ := event.TakeBatch(s)
	second, _, _ := event.TakeBatch(s)
	for i := range first.Events {
		first.Events[i] = api.Event{Kind: "changed"}
	}
	first.Events = append(first.Events, api.Event{})
	third, _, _ := event.TakeBatch(s)
	if !sameBatch(second, plain(8)) || !sameBatch(third, plain(8)) {
		t.Errorf("%v, %v", second, third)
	}
}

// P1: long rows of bytes come to an answer.
func TestTakeOfLongRows(t *testing.T) {
	for _, part := range []string{"\x00", "\x01", "\x08", "\x7f", "\x80", "\xc8\x01", "\xff", "\x01k", "k"} {
		s := strings.Repeat(part, 1<<20)
		checkTake(t, s)
		checkTakeBatch(t, s)
	}
}

func FuzzTake(f *testing.F) {
	f.Add("\x01k\x02xyz")
	f.Add("\x01 \x05")
	f.Fuzz(func(t *testing.T, s string) { checkTake(t, s) })
}

func FuzzTakeBatch(f *testing.F) {
	f.Add(event.PutBatch(plain(2)) + "more")
	f.Add("\x01s\x01\x02\x03\x09")
	f.Fuzz(func(t *testing.T, s string) { checkTakeBatch(t, s) })
}
