package record_test

import (
	"math"
	"slices"
	"strings"
	"testing"

	"bucketline/api"
	"bucketline/event"
	"bucketline/num"
	"bucketline/record"
)

// tails are bytes that may stand behind what was put, among them such as would go on with it.
func tails() []string {
	return []string{"", "\x00", "\x01", "k", "\x80", "\xff", "more", "\x01k\x00", strings.Repeat("\x80", 9), record.Put(plain(8, 5)), record.PutRow(row(1, 2))}
}

// takeParts takes what an entry is made of, up to the first error, and does not ask whether it is right.
func takeParts(s string) (e api.Entry, rest string, err api.Errno) {
	if e.Pos, rest, err = num.Take(s); err != api.OK {
		return e, rest, err
	}
	if e.Epoch, rest, err = num.Take(rest); err != api.OK {
		return e, rest, err
	}
	e.B, rest, err = event.TakeBatch(rest)
	return e, rest, err
}

// take follows R1, one word after another; of what it answers beside an error only the error counts.
func take(s string) (e api.Entry, rest string, err api.Errno) {
	e, rest, err = takeParts(s)
	if err == api.OK && (min(e.Pos, e.Epoch) < 1 || max(e.Pos, e.Epoch) > 274877906944 || event.Fits(e.B) != api.OK) {
		err = api.ErrForm
	}
	return e, rest, err
}

// takeRow follows R1, like take.
func takeRow(s string, most int) (l []api.Entry, rest string, err api.Errno) {
	count := 0
	if count, rest, err = num.Take(s); err != api.OK {
		return nil, rest, err
	}
	if count > most {
		return nil, rest, api.ErrLong
	}
	for len(l) < count {
		var e api.Entry
		if e, rest, err = take(rest); err != api.OK {
			return l, rest, err
		}
		l = append(l, e)
	}
	return l, rest, api.OK
}

func checkTake(t *testing.T, s string) {
	t.Helper()
	e, rest, err := record.Take(s)
	want, wantRest, wantErr := take(s)
	if wantErr != api.OK {
		want, wantRest = api.Entry{}, ""
	}
	if !sameEntry(e, want) || rest != wantRest || err != wantErr {
		t.Fatalf("Take(%.60q) = %.80v, %.60q, %d, want %.80v, %.60q, %d", s, e, rest, err, want, wantRest, wantErr)
	}
	if err == api.OK && record.Put(e)+rest != s {
		t.Fatalf("Take(%.60q) = %.80v, which is put otherwise", s, e)
	}
}

func checkTakeRow(t *testing.T, s string, most int) {
	t.Helper()
	l, rest, err := record.TakeRow(s, most)
	want, wantRest, wantErr := takeRow(s, most)
	if wantErr != api.OK {
		want, wantRest = nil, ""
	}
	if !sameRow(l, want) || rest != wantRest || err != wantErr {
		t.Fatalf("TakeRow(%.60q, %d) = %.80v, %.60q, %d, want %.80v, %.60q, %d", s, most, l, rest, err, want, wantRest, wantErr)
	}
	if err == api.OK && record.PutRow(l)+rest != s {
		t.Fatalf("TakeRow(%.60q, %d) = %.80v, which is put otherwise", s, most, l)
	}
}

func noEntry(t *testing.T, what, s string, want api.Errno) {
	t.Helper()
	if e, rest, err := record.Take(s); !sameEntry(e, api.Entry{}) || rest != "" || err != want {
		t.Errorf("Take of %s = %.80v, %.60q, %d, want %d", what, e, rest, err, want)
	}
}

func noRow(t *testing.T, what, s string, most int, want api.Errno) {
	t.Helper()
	if l, rest, err := record.TakeRow(s, most); len(l) != 0 || rest != "" || err != want {
		t.Errorf("TakeRow of %s, most %d = %.80v, %.60q, %d, want %d", what, most, l, rest, err, want)
	}
}

// R1, R4: what was put is taken, whatever is behind; with a byte less, or more of them, it is not whole.
func TestTakeOfPut(t *testing.T) {
	for _, e := range rightEntries() {
		s := record.Put(e)
		for _, tail := range tails() {
			if got, rest, err := record.Take(s + tail); !sameEntry(got, e) || rest != tail || err != api.OK {
				t.Fatalf("Take of Put(%.80v) with %.60q = %.80v, %.60q, %d", e, tail, got, rest, err)
			}
		}
		for end := range len(s) {
			noEntry(t, "a cut entry", s[:end], api.ErrShort)
		}
	}
}

// R1: the same of rows, with as many entries as most, and more room.
func TestTakeRowOfPutRow(t *testing.T) {
	rows := [][]api.Entry{nil, row(1), row(1, 1), row(5, 4, 4, 2), rightEntries(), {plain(9, 1), plain(2, 8), plain(2, 8)}, slices.Repeat(row(1), 128)}
	for _, l := range rows {
		s := record.PutRow(l)
		for _, tail := range tails() {
			for _, most := range []int{len(l), len(l) + 1, 1 << 40, math.MaxInt} {
				if got, rest, err := record.TakeRow(s+tail, most); !sameRow(got, l) || rest != tail || err != api.OK {
					t.Fatalf("TakeRow of PutRow of %d entries with %.60q, most %d = %.80v, %.60q, %d", len(l), tail, most, got, rest, err)
				}
			}
		}
		for end := range len(s) {
			noRow(t, "a cut row", s[:end], len(l), api.ErrShort)
		}
	}
}

// The parts of an entry's bytes: Pos, Epoch, and a batch.
var parts = [3]string{"\x07", "\x05", "\x01s\x08\x02\x03\x01\x01k\x00"}

func join(changed [3]string) string {
	return strings.Join(changed[:], "")
}

// partsWith has one part another one.
func partsWith(place int, part string) [3]string {
	changed := parts
	changed[place] = part
	return changed
}

// wrongParts have errors of their own.
func wrongParts() map[api.Errno][3][]string {
	const needless, tooMany, above = "\x81\x00", "\x80\x80\x80\x80\x80\x80\x80", "\x81\x80\x80\x80\x80\x20"
	return map[api.Errno][3][]string{
		api.ErrForm: {
			{needless, tooMany},
			{needless, tooMany},
			{
				needless + "s", tooMany,
				"\x01s" + needless, "\x01s\x08\x02\x03\x01\x01k" + needless + "x",
				// whole, but it does not fit
				"\x00\x08\x02\x03\x01\x01k\x00", "\x01s\x03\x02\x03\x01\x01k\x00", "\x01s\x08\x00\x03\x01\x01k\x00", "\x01s\x08\x02\x00\x01\x01k\x00",
				"\x01s\x08\x02\x03\x00", "\x01s\x08\x02\x03\x01\x01 \x00",
			},
		},
		api.ErrLong: {
			{above, "\xff\xff\xff\xff\xff\x7f"},
			{above, "\xff\xff\xff\xff\xff\x7f"},
			{above, "\xc9\x01", "\x01s" + above, "\x01s\x08\x02\x03\x09", "\x01s\x08\x02\x03\x01\xc9\x01", "\x01s\x08\x02\x03\x01\x01k\xc9\x01"},
		},
	}
}

// R1: each part with each error of its own; each of them is told ahead of those of the parts behind it.
func TestTakeTellsTheFirstError(t *testing.T) {
	for want, forms := range wrongParts() {
		for place, rows := range forms {
			for _, row := range rows {
				changed := partsWith(place, row)
				noEntry(t, "a part that is wrong", join(changed), want)
				noEntry(t, "a part that is wrong, and nothing behind", strings.Join(changed[:place+1], ""), want)
				for behind := place + 1; behind < len(parts); behind++ {
					for _, others := range wrongParts() {
						for _, other := range others[behind] {
							twice := changed
							twice[behind] = other
							noEntry(t, "two parts that are wrong", join(twice), want)
						}
					}
				}
			}
		}
	}
	for place := range parts {
		noEntry(t, "a part that is missing", strings.Join(parts[:place], ""), api.ErrShort)
		noEntry(t, "a part that is cut", strings.Join(parts[:place], "")+"\x80", api.ErrShort)
	}
}

// R1: what is whole, but not right, is ErrForm; that is told behind the errors of all parts.
func TestTakeTellsWhatIsNotRightAtLast(t *testing.T) {
	for place := range 2 {
		for _, n := range []int{0, 1<<38 + 1, 1 << 39, 1 << 40} {
			changed := partsWith(place, num.Put(n))
			noEntry(t, "a number that is not right", join(changed), api.ErrForm)
			noEntry(t, "a number that is not right, with bytes behind", join(changed)+"more", api.ErrForm)
			for end := range len(join(changed)) {
				noEntry(t, "a number that is not right, and a cut behind", join(changed)[:end], api.ErrShort)
			}
			for want, forms := range wrongParts() {
				for behind := place + 1; behind < len(parts); behind++ {
					for _, other := range forms[behind] {
						twice := changed
						twice[behind] = other
						noEntry(t, "a number that is not right, and a part that is wrong", join(twice), want)
					}
				}
			}
		}
		for _, n := range []int{1, 2, 1<<38 - 1, 1 << 38} {
			if _, rest, err := record.Take(join(partsWith(place, num.Put(n))) + "x"); rest != "x" || err != api.OK {
				t.Errorf("Take with the part %d %d: %q, %d", place, n, rest, err)
			}
		}
	}
}

// R1: a row of as many entries as most, of one more, and of most 0 and below 0.
func TestTakeRowOfMost(t *testing.T) {
	for count := range 6 {
		l := row(1, 1, 2, 3, 3)[:count]
		s := record.PutRow(l) + "x"
		for _, most := range []int{math.MinInt, -1 << 32, -2, -1, 0, 1, 2, 3, 4, 5, 6, 1 << 40, math.MaxInt} {
			if count > most {
				noRow(t, "too many entries", s, most, api.ErrLong)
				continue
			}
			if got, rest, err := record.TakeRow(s, most); !sameRow(got, l) || rest != "x" || err != api.OK {
				t.Errorf("TakeRow of %d entries, most %d = %v, %q, %d", count, most, got, rest, err)
			}
		}
	}
}

// R1: the number's error, then ErrLong, then the entries' errors.
func TestTakeRowTellsTheFirstError(t *testing.T) {
	one := join(parts)
	for _, most := range []int{math.MinInt, -1, 0, 1, 2, math.MaxInt} {
		noRow(t, "no byte", "", most, api.ErrShort)
		noRow(t, "a count that is cut", "\x80", most, api.ErrShort)
		noRow(t, "a count with a group too many", "\x81\x00"+one, most, api.ErrForm)
		noRow(t, "a count of seven groups", strings.Repeat("\x80", 7), most, api.ErrForm)
		noRow(t, "a count above 2^40", "\x81\x80\x80\x80\x80\x20"+one, most, api.ErrLong)
	}
	for _, behind := range []string{"", one, one + one, one + one + one, "\x80", "\x81\x00", "\x81\x80\x80\x80\x80\x20", "\x00" + one[1:]} {
		noRow(t, "a count above most", "\x03"+behind, 2, api.ErrLong)
		noRow(t, "a count above most", "\x80\x80\x80\x80\x80\x20"+behind, 1<<40-1, api.ErrLong)
	}
	noRow(t, "2^40 entries, of which none is there", "\x80\x80\x80\x80\x80\x20", math.MaxInt, api.ErrShort)
	noRow(t, "2^40 entries, of which two are there", "\x80\x80\x80\x80\x80\x20"+one+one, 1<<40, api.ErrShort)
	noRow(t, "an entry less than the count", "\x03"+one+one, 9, api.ErrShort)
}

// R1: the error of the first entry that has one, at each place, whatever is behind; also of one that is whole but not right.
func TestTakeRowOfWrongEntries(t *testing.T) {
	one, zero := join(parts), join(partsWith(0, "\x00"))
	wrong := map[string]api.Errno{zero: api.ErrForm, join(partsWith(1, num.Put(1<<38+1))): api.ErrForm}
	for want, forms := range wrongParts() {
		for place, rows := range forms {
			for _, row := range rows {
				wrong[join(partsWith(place, row))] = want
			}
		}
	}
	for bytes, want := range wrong {
		for n := 1; n <= 4; n++ {
			for place := range n {
				head := num.Put(n) + strings.Repeat(one, place) + bytes
				left := n - 1 - place
				noRow(t, "a wrong entry", head+strings.Repeat(one, left), n, want)
				noRow(t, "a wrong entry, with bytes behind", head+strings.Repeat(one, left+2), n, want)
				noRow(t, "two wrong entries", head+strings.Repeat(zero, left), n, want)
				noRow(t, "a wrong entry, and long numbers", head+strings.Repeat("\x81\x80\x80\x80\x80\x20", left), n, want)
			}
		}
	}
	for place := range 3 {
		noRow(t, "an entry that is not right, and none behind", "\x04"+strings.Repeat(one, place)+zero, 4, api.ErrForm)
	}
}

// rows calls f with each row of up to most of the bytes.
func rows(bytes string, most int, f func(string)) {
	var grow func(s string, left int)
	grow = func(s string, left int) {
		f(s)
		if left == 0 {
			return
		}
		for i := range len(bytes) {
			grow(s+bytes[i:i+1], left-1)
		}
	}
	grow("", most)
}

// R1: all short rows behind each beginning of an entry, and of a row, against the word-by-word reading.
func TestTakeOfRows(t *testing.T) {
	const bytes = "\x00\x01\x02\x09k\x80\xff "
	one := join(parts)
	for begin := range len(one) + 1 {
		rows(bytes, 4, func(s string) { checkTake(t, one[:begin]+s) })
	}
	s := "\x02" + one + one
	for begin := range len(s) + 1 {
		rows(bytes, 3, func(row string) {
			for _, most := range []int{-1, 0, 1, 2, 3} {
				checkTakeRow(t, s[:begin]+row, most)
			}
		})
	}
}

// R1: each byte another one, one left out, or one more.
func TestTakeOfChangedBytes(t *testing.T) {
	one := record.Put(plain(7, 5))
	s := "\x02" + one + one
	for place := range s {
		for b := range 256 {
			other := string([]byte{byte(b)})
			for _, changed := range []string{s[:place] + other + s[place+1:], s[:place] + other + s[place:], s[:place] + other} {
				checkTake(t, changed[1:])
				checkTakeRow(t, changed+one, 2)
				checkTakeRow(t, changed, 1000)
			}
		}
		for end := place; end <= len(s); end++ {
			checkTakeRow(t, s[:place]+s[end:], 2)
			checkTakeRow(t, s[:place]+s[end:]+s, 9)
		}
	}
}

// P3, P4: each answer has lists of its own, and hangs on nothing that was taken before.
func TestTakenListsAreNew(t *testing.T) {
	l := row(1, 2, 2)
	s := record.PutRow(l)
	first, _, _ := record.TakeRow(s, 3)
	second, _, _ := record.TakeRow(s, 3)
	for i := range first {
		for j := range first[i].B.Events {
			first[i].B.Events[j] = api.Event{Kind: "changed"}
		}
		first[i].B.Events = append(first[i].B.Events, api.Event{})
		if i+1 < len(first) && !sameEntry(first[i+1], l[i+1]) {
			t.Errorf("a change of the entry %d is seen in the next one", i)
		}
		first[i].Pos = 99
	}
	third, _, _ := record.TakeRow(s, 3)
	if !sameRow(second, l) || !sameRow(third, l) {
		t.Errorf("%v, %v", second, third)
	}
}

// P1: long rows of bytes come to an answer.
func TestTakeOfLongRows(t *testing.T) {
	for _, part := range []string{"\x00", "\x01", "\x08", "\x7f", "\x80", "\xc8\x01", "\xff", "\x01k", "k", join(parts)} {
		s := strings.Repeat(part, 1<<16)
		checkTake(t, s)
		for _, most := range []int{0, 9, math.MaxInt} {
			checkTakeRow(t, s, most)
			checkTakeRow(t, num.Put(1<<16)+s, most)
			checkTakeRow(t, num.Put(1<<40)+s, most)
		}
	}
}

func FuzzTake(f *testing.F) {
	f.Add(record.Put(plain(7, 5)) + "more")
	f.Add("\x00\x01\x01s")
	f.Fuzz(func(t *testing.T, s string) { checkTake(t, s) })
}

func FuzzTakeRow(f *testing.F) {
	f.Add(record.PutRow(row(1, 1, 2))+"more", 3)
	f.Add("\x00x", -1)
	f.Fuzz(func(t *testing.T, s string, most int) { checkTakeRow(t, s, most) })
}
