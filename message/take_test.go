package message_test

import (
	"slices"
	"strings"
	"testing"

	"bucketline/api"
	"bucketline/message"
	"bucketline/num"
)

// checkTake holds Take against the word-by-word reading, and what it takes against M3.
func checkTake(t *testing.T, s string) {
	t.Helper()
	m, err := message.Take(s)
	want, wantErr := take(s)
	if !same(m, want) || err != wantErr {
		t.Fatalf("Take(%.60q) = %T%.80v, %d, want %T%.80v, %d", s, m, m, err, want, want, wantErr)
	}
	if err == api.OK && (!message.Right(m) || message.Put(m) != s || m.Kind() != int(s[0])) {
		t.Fatalf("Take(%.60q) = %T%.80v, which is put as %.60q", s, m, m, message.Put(m))
	}
}

func noMessage(t *testing.T, what, s string, want api.Errno) {
	t.Helper()
	if m, err := message.Take(s); m != nil || err != want {
		t.Errorf("Take of %s (%.60q) = %T%.80v, %d, want %d", what, s, m, m, err, want)
	}
}

// M2: the chapter's examples.
func TestTakeOfExamples(t *testing.T) {
	if m, err := message.Take("\x05\x09"); m != (message.Where{Id: 9}) || err != api.OK {
		t.Errorf("Take of 5 9 = %v, %d", m, err)
	}
	noMessage(t, "5 9 0", "\x05\x09\x00", api.ErrForm)
	noMessage(t, "99", "\x63", api.ErrForm)
}

// M2: each kind is taken of its bytes, as a value.
func TestTake(t *testing.T) {
	for _, s := range samples() {
		if m, err := message.Take(s.bytes); !same(m, s.m) || err != api.OK {
			t.Errorf("Take(%q) = %T%v, %d, want %T%v", s.bytes, m, m, err, s.m, s.m)
		}
	}
}

// M2, M3: what was put is taken; with a byte less, or more of them, it is short; with bytes behind it is no message.
func TestTakeOfPut(t *testing.T) {
	for _, m := range rightSamples() {
		s := message.Put(m)
		if got, err := message.Take(s); !same(got, m) || err != api.OK {
			t.Fatalf("Take of Put(%T%.80v) = %T%.80v, %d", m, m, got, got, err)
		}
		for end := max(0, len(s)-400); end < len(s); end++ {
			noMessage(t, "a cut message", s[:end], api.ErrShort)
		}
		for end := range min(len(s), 400) {
			noMessage(t, "a message that is cut early", s[:end], api.ErrShort)
		}
		for _, tail := range []string{"\x00", "\x01", "\x80", "\xff", "more", s, strings.Repeat("\x80", 9)} {
			noMessage(t, "a message with bytes behind", s+tail, api.ErrForm)
		}
	}
}

// M2: first bytes that are no kind, whatever is behind them.
func TestTakeOfNoKind(t *testing.T) {
	noMessage(t, "no bytes", "", api.ErrShort)
	for b := range 256 {
		head := string([]byte{byte(b)})
		if 1 <= b && b <= 14 {
			noMessage(t, "a kind alone", head, api.ErrShort)
			continue
		}
		for _, tail := range []string{"", "\x00", "\x01\x01\x01", "\x80", "\x81\x00", "\x81\x80\x80\x80\x80\x20", samples()[0].bytes} {
			noMessage(t, "no kind", head+tail, api.ErrForm)
		}
	}
}

// layouts are the parts of the bytes of each kind, told by letters: n a number, N, M, E and V lists of numbers, marks, entries and events, b a batch, s a Stream.
func layouts() []string {
	return []string{"", "nnn", "nn", "nn", "nNNN", "n", "nnnM", "nnnnnnE", "nnn", "nnnn", "nnnn", "nb", "nsn", "nnnnnn", "nnnV"}
}

// good are bytes of a part that is right.
func good(letter rune) string {
	switch letter {
	case 'N':
		return "\x02\x01\x07"
	case 'M':
		return "\x02\x01\x01\x02\x05"
	case 'E':
		return "\x02" + entryBytes + entryBytes
	case 'V':
		return "\x02\x01k\x01x\x01l\x00"
	case 'b':
		return batchBytes
	case 's':
		return "\x01s"
	}
	return "\x07"
}

const needless, tooMany, above = "\x81\x00", "\x80\x80\x80\x80\x80\x80\x80", "\x81\x80\x80\x80\x80\x20"

// wrongParts are bytes of a part that err by themselves, by their errors.
func wrongParts(letter rune) map[api.Errno][]string {
	out := map[api.Errno][]string{api.ErrForm: {needless, tooMany}, api.ErrLong: {above, "\xff\xff\xff\xff\xff\x7f"}}
	form := func(all ...string) { out[api.ErrForm] = append(out[api.ErrForm], all...) }
	long := func(all ...string) { out[api.ErrLong] = append(out[api.ErrLong], all...) }
	switch letter {
	case 'N':
		form("\x01"+needless, "\x06\x01\x01\x01\x01\x01"+needless)
		long("\x07", "\x07\x01\x01\x01\x01\x01\x01\x01", "\x07"+needless, num.Put(1<<40), "\x01"+above, "\x02\x01"+above)
	case 'M':
		form("\x01"+needless, "\x01\x01"+needless, "\x1e"+strings.Repeat("\x01", 59)+needless)
		long("\x1f", "\x1f"+strings.Repeat("\x01\x01", 31), "\x1f"+needless, num.Put(1<<40), "\x01"+above, "\x01\x01"+above)
	case 'E':
		form("\x01"+needless, "\x01\x01"+needless, "\x02"+entryBytes+needless, "\x01\x00\x05"+batchBytes, "\x01\x07"+num.Put(1<<38+1)+batchBytes, "\x02\x00\x05"+batchBytes+above, "\x01\x07\x05\x00\x08\x02\x03\x01\x01k\x00")
		long("\x09", "\x09"+strings.Repeat(entryBytes, 9), "\x09"+needless, num.Put(1<<40), "\x01"+above, "\x02"+entryBytes+above, "\x01\x07\x05\x01s\x08\x02\x03\x09")
	case 'V':
		form("\x01"+needless, "\x02\x01k\x00"+needless, "\x01\x00\x00", "\x01\x01 \x00", "\x02\x01 \x00"+above)
		long("\x11", "\x11"+strings.Repeat("\x01k\x00", 17), "\x11"+needless, num.Put(1<<40), "\x01\xc9\x01", "\x01\x01k\xc9\x01", "\x02\x01k\x00\xc9\x01", "\x01\x01 \xc9\x01")
	case 'b':
		form("\x01s"+needless, "\x00\x08\x02\x03\x01\x01k\x00", "\x01s\x03\x02\x03\x01\x01k\x00", "\x01s\x08\x00\x03\x01\x01k\x00", "\x01s\x08\x02\x03\x00", "\x01s\x08\x02\x03\x01\x01 \x00")
		long("\xc9\x01", "\x01s"+above, "\x01s\x08\x02\x03\x09", "\x01s\x08\x02\x03\x01\xc9\x01")
	case 's':
		long("\xc9\x01", "\xc9\x01"+strings.Repeat("s", 201), num.Put(1<<40))
	}
	return out
}

// notRight are bytes of a part that is whole, but not right.
func notRight(letter rune) []string {
	over := num.Put(1<<38 + 1)
	switch letter {
	case 'n':
		return []string{over, num.Put(1 << 39), num.Put(1 << 40)}
	case 'N':
		return []string{"\x01" + over, "\x02" + over + "\x01", "\x06\x01\x01\x01\x01\x01" + num.Put(1<<40)}
	case 'M':
		return []string{"\x01" + over + "\x01", "\x01\x01" + over, "\x1e" + strings.Repeat("\x01", 59) + over}
	case 's':
		var out []string
		for _, name := range noNames() {
			if len(name) <= 200 {
				out = append(out, num.PutText(name))
			}
		}
		return out
	}
	return nil
}

// split are the bytes of a right message of that kind, part by part, its kind ahead of them.
func split(kind int) []string {
	out := []string{string(rune(kind))}
	for _, letter := range layouts()[kind] {
		out = append(out, good(letter))
	}
	return out
}

func replaced(parts []string, place int, part string) []string {
	out := slices.Clone(parts)
	out[place] = part
	return out
}

// M2: each part with each error of its own; each of them is told ahead of those of the parts behind it, and behind nothing of those ahead.
func TestTakeTellsTheFirstError(t *testing.T) {
	for kind := 1; kind <= 14; kind++ {
		parts := split(kind)
		letters := []rune(layouts()[kind])
		checkTake(t, strings.Join(parts, ""))
		if _, err := message.Take(strings.Join(parts, "")); err != api.OK {
			t.Fatalf("the parts of kind %d: %d", kind, err)
		}
		for i, letter := range letters {
			ahead := strings.Join(parts[:i+1], "")
			noMessage(t, "a part that is missing", ahead, api.ErrShort)
			noMessage(t, "a part that is cut", ahead+"\x80", api.ErrShort)
			for want, all := range wrongParts(letter) {
				for _, part := range all {
					changed := replaced(parts, i+1, part)
					noMessage(t, "a part that is wrong, and nothing behind", ahead+part, want)
					noMessage(t, "a part that is wrong", strings.Join(changed, ""), want)
					noMessage(t, "a part that is wrong, with bytes behind", strings.Join(changed, "")+"more", want)
					for j := i + 1; j < len(letters); j++ {
						for _, others := range wrongParts(letters[j]) {
							for _, other := range others {
								noMessage(t, "two parts that are wrong", strings.Join(replaced(changed, j+1, other), ""), want)
							}
						}
					}
				}
			}
		}
	}
}

// M2: what is whole, but not right, is ErrForm; that is told behind the errors of all parts.
func TestTakeTellsWhatIsNotRightAtLast(t *testing.T) {
	for kind := 1; kind <= 14; kind++ {
		parts := split(kind)
		letters := []rune(layouts()[kind])
		for i, letter := range letters {
			for _, part := range notRight(letter) {
				changed := replaced(parts, i+1, part)
				s := strings.Join(changed, "")
				noMessage(t, "a part that is not right", s, api.ErrForm)
				noMessage(t, "a part that is not right, with bytes behind", s+"\x81\x80\x80\x80\x80\x20", api.ErrForm)
				for end := range len(s) {
					noMessage(t, "a part that is not right, and a cut behind", s[:end], api.ErrShort)
				}
				for j := i + 1; j < len(letters); j++ {
					for want, others := range wrongParts(letters[j]) {
						for _, other := range others {
							noMessage(t, "a part that is not right, and one that is wrong", strings.Join(replaced(changed, j+1, other), ""), want)
						}
					}
				}
			}
		}
	}
}

// M2: how many parts a list has, and is said to have; the number is asked ahead of the parts.
func TestTakeOfLists(t *testing.T) {
	for _, c := range []struct {
		what, ahead, part, behind string
		most                      int
	}{
		{"Chain", "\x04\x01", "\x05", "\x00\x00", 6},
		{"Since", "\x04\x01\x01\x05", "\x05", "\x00", 6},
		{"Boot", "\x04\x01\x00\x02\x01\x02", "\x05", "", 6},
		{"Marks", "\x06\x01\x02\x03", "\x04\x05", "", 30},
		{"Entries", "\x07\x01\x02\x03\x04\x05\x06", entryBytes, "", 8},
		{"Events", "\x0e\x01\x02\x03", "\x01k\x01x", "", 16},
	} {
		for count := range 128 {
			head := c.ahead + string(rune(count))
			s := head + strings.Repeat(c.part, count) + c.behind
			if count > c.most {
				noMessage(t, "too many "+c.what, s, api.ErrLong)
				noMessage(t, "too many "+c.what+", of which none is there", head, api.ErrLong)
				noMessage(t, "too many "+c.what+", and wrong bytes", head+needless, api.ErrLong)
				continue
			}
			checkTake(t, s)
			if m, err := message.Take(s); err != api.OK || message.Put(m) != s {
				t.Errorf("Take of %d %s = %T%.80v, %d", count, c.what, m, m, err)
			}
			if count > 0 {
				noMessage(t, "fewer "+c.what+" than are said", head+strings.Repeat(c.part, count-1), api.ErrShort)
			}
			noMessage(t, "more "+c.what+" than are said", head+strings.Repeat(c.part, count)+c.behind+c.part, api.ErrForm)
		}
		for _, count := range []int{128, 300, 1 << 16, 1 << 32, 1<<32 + 1, 1 << 40} {
			noMessage(t, "far too many "+c.what, c.ahead+num.Put(count)+strings.Repeat(c.part, 40), api.ErrLong)
		}
	}
}

// M2: a part of a list that errs, at each place, is told ahead of those behind it.
func TestTakeOfWrongParts(t *testing.T) {
	zero := "\x00\x05" + batchBytes
	for _, c := range []struct {
		head, part string
		most       int
		wrong      map[string]api.Errno
	}{
		{"\x04\x01", "\x05", 6, map[string]api.Errno{needless: api.ErrForm, above: api.ErrLong}},
		{"\x06\x01\x02\x03", "\x04\x05", 30, map[string]api.Errno{needless: api.ErrForm, "\x04" + needless: api.ErrForm, above: api.ErrLong, "\x04" + above: api.ErrLong}},
		{"\x07\x01\x02\x03\x04\x05\x06", entryBytes, 8, map[string]api.Errno{zero: api.ErrForm, "\x07" + needless: api.ErrForm, above: api.ErrLong}},
		{"\x0e\x01\x02\x03", "\x01k\x01x", 16, map[string]api.Errno{"\x00\x00": api.ErrForm, "\x01 \x00": api.ErrForm, "\x01k\xc9\x01": api.ErrLong, needless: api.ErrForm}},
	} {
		for part, want := range c.wrong {
			for count := 1; count <= c.most; count++ {
				for place := range count {
					ahead := c.head + num.Put(count) + strings.Repeat(c.part, place) + part
					noMessage(t, "a wrong part, and nothing behind", ahead, want)
					noMessage(t, "a wrong part", ahead+strings.Repeat(c.part, count-1-place), want)
					for other := range c.wrong {
						noMessage(t, "wrong parts", ahead+strings.Repeat(other, count-1-place), want)
					}
				}
			}
		}
	}
}

// M2: a Stream's bytes: up to 200 are taken, and then asked whether they are a name.
func TestTakeOfStreams(t *testing.T) {
	for length := range 260 {
		s := "\x0c\x07" + num.PutText(strings.Repeat("x", length)) + "\x05"
		switch m, err := message.Take(s); {
		case length == 0 || 32 < length && length <= 200:
			noMessage(t, "a Stream that is no name", s, api.ErrForm)
			noMessage(t, "a Stream that is no name, and no From", s[:len(s)-1], api.ErrShort)
			noMessage(t, "a Stream that is no name, and a From above 2^40", s[:len(s)-1]+above, api.ErrLong)
		case length > 200:
			noMessage(t, "a long Stream", s, api.ErrLong)
			noMessage(t, "a long Stream, of which nothing is there", "\x0c\x07"+num.Put(length), api.ErrLong)
		case err != api.OK || m != (message.Read{Id: 7, Stream: strings.Repeat("x", length), From: 5}):
			t.Errorf("Take of a Stream of %d bytes = %v, %d", length, m, err)
		}
	}
	drops := strings.Repeat("\U0001f4a7", 32)
	if m, err := message.Take("\x0c\x07" + num.PutText(drops) + "\x05"); err != api.OK || m != (message.Read{Id: 7, Stream: drops, From: 5}) {
		t.Errorf("Take of a Stream of 128 bytes = %v, %d", m, err)
	}
	for _, name := range noNames() {
		if len(name) <= 200 {
			noMessage(t, "a Stream that is no name", "\x0c\x07"+num.PutText(name)+"\x05", api.ErrForm)
		}
	}
}

// rows calls f with each row of up to most of the bytes.
func rows(bytes string, most int, f func(string)) {
	var grow func(s string, left int)
	grow = func(s string, left int) {
		f(s)
		if left == 0 {
			return
		}
		for i := range len(bytes) {
			grow(s+bytes[i:i+1], left-1)
		}
	}
	grow("", most)
}

// M2, M3: all short rows behind each beginning of each kind, against the word-by-word reading.
func TestTakeOfRows(t *testing.T) {
	const bytes = "\x00\x01\x02\x09\x1fk\x80\xff "
	for _, s := range samples() {
		for begin := range len(s.bytes) + 1 {
			rows(bytes, 4, func(row string) { checkTake(t, s.bytes[:begin]+row) })
		}
	}
}

// M2, M3: each byte another one, one left out, or one more.
func TestTakeOfChangedBytes(t *testing.T) {
	for _, c := range samples() {
		s := c.bytes
		for place := range len(s) {
			for b := range 256 {
				other := string([]byte{byte(b)})
				checkTake(t, s[:place]+other+s[place+1:])
				checkTake(t, s[:place]+other+s[place:])
				checkTake(t, s[:place]+other)
			}
			for end := place; end <= len(s); end++ {
				checkTake(t, s[:place]+s[end:])
				checkTake(t, s[:place]+s[end:]+s)
			}
		}
	}
}

// P3, P4: each answer has lists of its own, and hangs on nothing that was taken before.
func TestTakenListsAreNew(t *testing.T) {
	s := "\x04\x01\x02\x01\x02\x02\x03\x04\x02\x05\x06"
	want := message.View{Epoch: 1, Chain: []int{1, 2}, Since: []int{3, 4}, Boot: []int{5, 6}}
	m, _ := message.Take(s)
	first := m.(message.View)
	for _, l := range []*[]int{&first.Chain, &first.Since, &first.Boot} {
		*l = append((*l)[:0], 9, 9, 9)
		*l = append((*l)[:cap(*l)], 9)
	}
	if m, _ = message.Take(s); !same(m, want) {
		t.Errorf("%v", m)
	}
	second := m.(message.View)
	second.Chain = append(second.Chain[:cap(second.Chain)], 9, 9)
	second.Chain[0] = 9
	if !slices.Equal(second.Since, want.Since) || !slices.Equal(second.Boot, want.Boot) {
		t.Errorf("a change of Chain is seen: %v", second)
	}
	logs := message.Put(message.Logs{Entries: []api.Entry{entry(1), entry(2)}})
	m, _ = message.Take(logs)
	entries := m.(message.Logs).Entries
	entries[0].B.Events[0].Kind = "changed"
	entries[0].B.Events = append(entries[0].B.Events, api.Event{})
	if again, err := message.Take(logs); err != api.OK || message.Put(again) != logs || entries[1].B.Events[0].Kind != "k" {
		t.Errorf("%v, %d, %v", again, err, entries)
	}
}

// P1: long rows of bytes come to an answer.
func TestTakeOfLongRows(t *testing.T) {
	for _, part := range []string{"\x00", "\x01", "\x06", "\x08", "\x7f", "\x80", "\xc8\x01", "\xff", "\x01k", "k", entryBytes} {
		s := strings.Repeat(part, 1<<16)
		checkTake(t, s)
		for kind := range 16 {
			checkTake(t, string(rune(kind))+s)
		}
	}
}

func FuzzTake(f *testing.F) {
	for _, s := range samples() {
		f.Add(s.bytes)
	}
	f.Fuzz(func(t *testing.T, s string) { checkTake(t, s) })
}
