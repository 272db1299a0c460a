package record_test

import (
	"math"
	"math/rand/v2"
	"slices"
	"testing"

	"bucketline/api"
	"bucketline/record"
)

// marks are pairs of an epoch and its first place.
func marks(pairs ...int) []api.Mark {
	var out []api.Mark
	for pair := range slices.Chunk(pairs, 2) {
		out = append(out, api.Mark{Epoch: pair[0], First: pair[1]})
	}
	return out
}

// R2: rows that go on, and rows that do not.
func TestFollows(t *testing.T) {
	l := []api.Entry{plain(3, 1), plain(4, 1), plain(5, 4)}
	for _, c := range []struct {
		what       string
		l          []api.Entry
		pos, epoch int
		want       bool
	}{
		{"no entries", nil, 0, 0, true},
		{"no entries, anywhere", []api.Entry{}, math.MinInt, math.MaxInt, true},
		{"no entries, of a length of 0", l[:0], math.MaxInt, math.MinInt, true},
		{"all in order", l, 2, 1, true},
		{"from an epoch below", l, 2, 0, true},
		{"from an epoch below 0", l, 2, math.MinInt, true},
		{"from an epoch above", l, 2, 2, false},
		{"from an epoch far above", l, 2, math.MaxInt, false},
		{"a first Pos that leaves one out", l, 1, 1, false},
		{"a first Pos that stays", l, 3, 1, false},
		{"a first Pos that goes back", l, 4, 1, false},
		{"from far below", l, math.MinInt, 1, false},
		{"from far above", l, math.MaxInt, 1, false},
		{"one entry", l[1:2], 3, 1, true},
		{"a Pos that leaves one out", []api.Entry{plain(3, 1), plain(5, 1)}, 2, 1, false},
		{"a Pos that stays", []api.Entry{plain(3, 1), plain(3, 1)}, 2, 1, false},
		{"a Pos that goes back", []api.Entry{plain(3, 1), plain(2, 1)}, 2, 1, false},
		{"a last Pos that leaves one out", []api.Entry{plain(3, 1), plain(4, 1), plain(6, 1)}, 2, 1, false},
		{"a last Pos that stays", []api.Entry{plain(3, 1), plain(4, 1), plain(4, 1)}, 2, 1, false},
		{"a last Pos that goes on from pos alone", []api.Entry{plain(3, 1), plain(4, 1), plain(3, 1)}, 2, 1, false},
		{"an Epoch that falls", []api.Entry{plain(3, 2), plain(4, 1)}, 2, 1, false},
		{"an Epoch that falls at last", []api.Entry{plain(3, 2), plain(4, 5), plain(5, 4)}, 2, 1, false},
		{"an Epoch that falls and rises", []api.Entry{plain(3, 3), plain(4, 2), plain(5, 3)}, 2, 1, false},
		{"an Epoch that rises by many", []api.Entry{plain(3, 2), plain(4, 1<<38)}, 2, 1, true},
		{"up to the last place", []api.Entry{plain(1<<38-1, 1<<38), plain(1<<38, 1<<38)}, 1<<38 - 2, 1 << 38, true},
		{"beyond the last place", []api.Entry{plain(1<<38, 1), plain(1<<38+1, 1)}, 1<<38 - 1, 0, false},
		{"from beyond the last place", []api.Entry{plain(1<<38+1, 1)}, 1 << 38, 0, false},
		{"from ahead of the first place", []api.Entry{plain(0, 1), plain(1, 1)}, -1, 0, false},
		{"an Epoch of 0", []api.Entry{plain(1, 0)}, 0, 0, false},
		{"an Epoch below 0", []api.Entry{plain(1, -1)}, 0, -1, false},
		{"beyond the greatest int", []api.Entry{plain(math.MinInt, 1)}, math.MaxInt, 0, false},
	} {
		if got := record.Follows(c.l, c.pos, c.epoch); got != c.want {
			t.Errorf("Follows: %s: %t", c.what, got)
		}
	}
}

// R2: an entry that is not right, at each place, though its Pos and Epoch go on.
func TestFollowsOfWrongEntries(t *testing.T) {
	for i, b := range misfits() {
		for n := 1; n <= 4; n++ {
			for place := range n {
				l := row(1, 1, 2, 3)[:n]
				if !record.Follows(l, 0, 1) {
					t.Fatalf("Follows of %d entries that go on: false", n)
				}
				l[place].B = b
				if record.Follows(l, 0, 1) {
					t.Errorf("Follows with the batch %d, that does not fit, in the entry %d of %d", i, place, n)
				}
			}
		}
	}
}

// follows holds each entry against the one ahead, as R2 says it.
func follows(l []api.Entry, pos, epoch int) bool {
	ahead := append([]api.Entry{{Pos: pos, Epoch: epoch}}, l...)
	for i, e := range l {
		if !record.Right(e) || e.Pos != ahead[i].Pos+1 || e.Epoch < ahead[i].Epoch {
			return false
		}
	}
	return true
}

// R2: all short rows of places and epochs.
func TestFollowsOfRows(t *testing.T) {
	var grow func(l []api.Entry)
	grow = func(l []api.Entry) {
		for pos := -1; pos <= 3; pos++ {
			for epoch := -1; epoch <= 3; epoch++ {
				if got, want := record.Follows(l, pos, epoch), follows(l, pos, epoch); got != want {
					t.Fatalf("Follows(%v, %d, %d) = %t", l, pos, epoch, got)
				}
			}
		}
		if len(l) == 3 {
			return
		}
		for pos := range 5 {
			for epoch := range 3 {
				grow(append(l, plain(pos, epoch)))
			}
		}
	}
	grow(nil)
}

// R2: the chapter's example, no entries, one epoch, some, and epochs that fall; entries need not be right.
func TestMarks(t *testing.T) {
	for _, c := range []struct {
		what string
		l    []api.Entry
		want []api.Mark
	}{
		{"the example", row(1, 1, 2), marks(1, 1, 2, 3)},
		{"no entries", nil, nil},
		{"a length of 0", row(1, 2)[:0], nil},
		{"entries behind the length", row(1, 2)[:1], marks(1, 1)},
		{"one entry", []api.Entry{plain(9, 4)}, marks(4, 9)},
		{"one epoch", row(5, 5, 5, 5), marks(5, 1)},
		{"an epoch an entry", row(1, 2, 3), marks(1, 1, 2, 2, 3, 3)},
		{"some epochs", row(1, 1, 3, 3, 3, 7), marks(1, 1, 3, 3, 7, 6)},
		{"epochs that fall", row(3, 2, 2, 1), marks(3, 1, 2, 2, 1, 4)},
		{"an epoch that comes again", row(1, 2, 1, 1, 2), marks(1, 1, 2, 2, 1, 3, 2, 5)},
		{"behind the first place", []api.Entry{plain(7, 2), plain(8, 2), plain(9, 3)}, marks(2, 7, 3, 9)},
		{"places that do not go on", []api.Entry{plain(7, 2), plain(3, 2), plain(3, 5), plain(-1, 4)}, marks(2, 7, 5, 3, 4, -1)},
		{"epochs of 0 and below", []api.Entry{{}, {Pos: 4}, {Pos: 5, Epoch: -1}, {Pos: 6}}, marks(0, 0, -1, 5, 0, 6)},
		{"epochs that are far apart", []api.Entry{plain(1, math.MinInt), plain(2, math.MaxInt), plain(3, math.MinInt)}, marks(math.MinInt, 1, math.MaxInt, 2, math.MinInt, 3)},
	} {
		if got := record.Marks(c.l); !slices.Equal(got, c.want) {
			t.Errorf("Marks: %s: %v, want %v", c.what, got, c.want)
		}
	}
}

// P3: lists of marks are new.
func TestMarksAreNew(t *testing.T) {
	l := row(1, 1, 2)
	first := record.Marks(l)
	first[0] = api.Mark{Epoch: 9, First: 9}
	if got := record.Marks(l); !slices.Equal(got, marks(1, 1, 2, 3)) {
		t.Errorf("%v", got)
	}
}

// R3: the chapter's example, and the edges; both ways round.
func TestFork(t *testing.T) {
	for _, c := range []struct {
		what  string
		a     []api.Mark
		lastA int
		b     []api.Mark
		lastB int
		want  int
	}{
		{"the example", marks(1, 1, 2, 4), 6, marks(1, 1, 3, 5), 7, 3},
		{"no marks", nil, 5, nil, 5, 0},
		{"no marks and no places", nil, 0, nil, 0, 0},
		{"no marks in one", nil, 5, marks(1, 1), 5, 0},
		{"a last of 0", marks(1, 1), 0, marks(1, 1), 5, 0},
		{"lasts of 0", marks(1, 1), 0, marks(1, 1), 0, 0},
		{"a last below 0", marks(1, 1), -5, marks(1, 1), 5, 0},
		{"lasts below 0", marks(1, 1), -1, marks(1, 1), math.MinInt, 0},
		{"a last below 0, of no marks", nil, -1, nil, 3, 0},
		{"one log", marks(1, 1, 2, 4), 6, marks(1, 1, 2, 4), 6, 6},
		{"one log of one entry", marks(1, 1), 1, marks(1, 1), 1, 1},
		{"a beginning within an epoch", marks(1, 1), 6, marks(1, 1), 4, 4},
		{"a beginning at an epoch's end", marks(1, 1, 2, 4), 6, marks(1, 1), 3, 3},
		{"a beginning up to an epoch's first place", marks(1, 1, 2, 4), 6, marks(1, 1, 2, 4), 4, 4},
		{"parted at the first place", marks(1, 1), 6, marks(2, 1), 6, 0},
		{"parted at the first place, one again behind it", marks(1, 1, 3, 2), 6, marks(2, 1, 3, 2), 6, 0},
		{"parted at the second place", marks(1, 1, 2, 2), 6, marks(1, 1, 3, 2), 6, 1},
		{"parted at the last place", marks(1, 1, 2, 6), 6, marks(1, 1), 6, 5},
		{"parted behind the last place", marks(1, 1, 2, 7), 6, marks(1, 1), 6, 6},
		{"parted behind one last place", marks(1, 1, 2, 4), 3, marks(1, 1, 3, 4), 9, 3},
		{"an epoch that begins earlier", marks(1, 1, 2, 4), 9, marks(1, 1, 2, 3), 9, 2},
		{"an epoch more at the end", marks(1, 1, 2, 4), 9, marks(1, 1, 2, 4, 5, 7), 9, 6},
		{"marks from place 2 on", marks(1, 2), 5, marks(1, 2), 5, 0},
		{"marks from place 2 on in one", marks(1, 2), 5, marks(1, 1), 5, 0},
		{"marks far behind place 1", marks(1, 1<<40), 1 << 50, marks(1, 1<<40), 1 << 50, 0},
		{"marks from ahead of place 1 on", marks(1, 0), 5, marks(1, -7), 5, 5},
		{"marks that end ahead of place 1", marks(1, -3, 2, 0), 5, marks(2, 1), 5, 5},
		{"an epoch of 0 at first", marks(0, 1, 1, 2), 5, marks(0, 1, 1, 2), 5, 0},
		{"an epoch of 0 within", marks(1, 1, 0, 3, 1, 4), 5, marks(1, 1, 0, 3, 1, 4), 5, 2},
		{"an epoch below 0", marks(-1, 1), 5, marks(-1, 1), 5, 5},
		{"an epoch marked twice", marks(1, 1, 1, 3), 5, marks(1, 1), 5, 5},
		{"an epoch that comes again", marks(1, 1, 2, 3, 1, 5), 9, marks(1, 1, 2, 3, 1, 5), 8, 8},
		{"two marks of one place", marks(1, 1, 2, 1), 5, marks(2, 1), 5, 5},
		{"marks that fall", marks(2, 4, 1, 1), 5, marks(1, 1), 5, 5},
		{"marks that fall and rise", marks(1, 1, 2, 6, 3, 3), 9, marks(1, 1, 3, 3), 9, 9},
		{"far places", marks(1, 1), 1 << 62, marks(1, 1), 1 << 61, 1 << 61},
		{"the farthest places", marks(1, 1), math.MaxInt, marks(1, 1), math.MaxInt, math.MaxInt},
		{"parted at the farthest place", marks(1, 1, 2, math.MaxInt), math.MaxInt, marks(1, 1), math.MaxInt, math.MaxInt - 1},
		{"the first mark farthest back", marks(1, math.MinInt), math.MaxInt, marks(1, 1), 9, 9},
		{"the epochs of most bits", marks(math.MinInt, 1, math.MaxInt, 2), 5, marks(math.MinInt, 1, -1, 2), 5, 1},
	} {
		if got := record.Fork(c.a, c.lastA, c.b, c.lastB); got != c.want {
			t.Errorf("Fork: %s: %d, want %d", c.what, got, c.want)
		}
		if got := record.Fork(c.b, c.lastB, c.a, c.lastA); got != c.want {
			t.Errorf("Fork: %s, the other way round: %d, want %d", c.what, got, c.want)
		}
	}
}

// epochAt is R3's epoch of a place.
func epochAt(marks []api.Mark, place int) int {
	for _, m := range slices.Backward(marks) {
		if m.First <= place {
			return m.Epoch
		}
	}
	return 0
}

// fork reads R3 place by place.
func fork(a []api.Mark, lastA int, b []api.Mark, lastB int) int {
	p := 0
	for p < lastA && p < lastB {
		x := epochAt(a, p+1)
		if x == 0 || x != epochAt(b, p+1) {
			break
		}
		p++
	}
	return p
}

func checkFork(t *testing.T, a []api.Mark, lastA int, b []api.Mark, lastB int) {
	t.Helper()
	if got, want := record.Fork(a, lastA, b, lastB), fork(a, lastA, b, lastB); got != want {
		t.Fatalf("Fork(%v, %d, %v, %d) = %d, want %d", a, lastA, b, lastB, got, want)
	}
}

// shortLists are all lists of up to two marks of a few epochs and places.
func shortLists() [][]api.Mark {
	lists := [][]api.Mark{nil}
	var singles []api.Mark
	for epoch := range 3 {
		for first := -1; first <= 4; first++ {
			singles = append(singles, api.Mark{Epoch: epoch, First: first})
		}
	}
	for _, m := range singles {
		lists = append(lists, []api.Mark{m})
		for _, n := range singles {
			lists = append(lists, []api.Mark{m, n})
		}
	}
	return lists
}

// R3: all pairs of short lists of marks, right or not, against the place-by-place reading.
func TestForkOfShortLists(t *testing.T) {
	lists := shortLists()
	for _, a := range lists {
		for _, b := range lists {
			checkFork(t, a, 5, b, 6)
			checkFork(t, a, 3, b, 2)
			checkFork(t, a, 0, b, 1)
			checkFork(t, a, 4, b, -1)
		}
	}
}

// R3: longer lists, right ones and others, against the place-by-place reading.
func TestForkOfLongerLists(t *testing.T) {
	r := rand.New(rand.NewPCG(6, 3))
	some := func() []api.Mark {
		var out []api.Mark
		first := r.IntN(3)
		for range r.IntN(9) {
			if out = append(out, api.Mark{Epoch: r.IntN(4), First: first}); r.IntN(6) == 0 {
				first -= r.IntN(7)
			}
			first += r.IntN(4)
		}
		return out
	}
	for range 100000 {
		a, b := some(), some()
		if r.IntN(2) == 0 { // logs that begin as one
			b = append(slices.Clone(a[:r.IntN(len(a)+1)]), b...)
		}
		checkFork(t, a, r.IntN(30)-1, b, r.IntN(30)-1)
	}
}

// R4: two logs, told by the epochs of their entries, in which entries of one place and one epoch are one, and so is all ahead: behind where they part no epoch is the same at one place.
func TestForkTellsHowFarLogsAreOne(t *testing.T) {
	logs := [][]int{nil}
	for begin := 0; len(logs[begin]) < 5; begin++ {
		for epoch := 1; epoch <= 3; epoch++ {
			logs = append(logs, append(slices.Clone(logs[begin]), epoch))
		}
	}
	tried := 0
	for _, a := range logs {
		for _, b := range logs {
			one := 0
			for one < min(len(a), len(b)) && a[one] == b[one] {
				one++
			}
			apart := true
			for p := one; p < min(len(a), len(b)); p++ {
				apart = apart && a[p] != b[p]
			}
			if !apart {
				continue
			}
			tried++
			if got := record.Fork(record.Marks(row(a...)), len(a), record.Marks(row(b...)), len(b)); got != one {
				t.Fatalf("Fork of the logs of epochs %v and %v = %d, want %d", a, b, got, one)
			}
		}
	}
	if tried < 10000 {
		t.Errorf("only %d pairs", tried)
	}
}

// P3, P4: Fork writes into no list, reads nothing behind their lengths, and keeps nothing.
func TestForkLeavesMarksAlone(t *testing.T) {
	a, b := marks(1, 1, 2, 4, 7, 2, 3, 3), marks(9, 9, 1, 1, 2, 4, 8, 1)
	beforeA, beforeB := slices.Clone(a), slices.Clone(b)
	for range 3 {
		if got := record.Fork(a[:2], 9, b[:3], 8); got != 8 {
			t.Errorf("%d", got)
		}
		record.Fork(a, 9, b, 9)
	}
	if !slices.Equal(a, beforeA) || !slices.Equal(b, beforeB) {
		t.Errorf("%v, %v", a, b)
	}
}

// P1: long lists, in any order, and far places come to an answer.
func TestLongLists(t *testing.T) {
	const n = 1 << 18
	rising, falling := make([]api.Mark, n), make([]api.Mark, n)
	for i := range n {
		rising[i] = api.Mark{Epoch: i + 1, First: 2*i + 1}
		falling[i] = api.Mark{Epoch: n - i, First: 2*(n-1-i) + 1}
	}
	if got := record.Fork(rising, math.MaxInt, rising, math.MaxInt); got != math.MaxInt {
		t.Errorf("rising marks: %d", got)
	}
	if got := record.Fork(rising, math.MaxInt, rising[:n-1], math.MaxInt); got != 2*(n-1) {
		t.Errorf("rising marks, one less: %d", got)
	}
	if got := record.Fork(falling, math.MaxInt, rising, math.MaxInt); got != 2 {
		t.Errorf("falling marks: %d", got)
	}
	l := make([]api.Entry, n)
	for i := range l {
		l[i] = plain(i+1, i/2+1)
	}
	if !record.Follows(l, 0, 0) || len(record.Marks(l)) != n/2 {
		t.Errorf("a long row: %d marks", len(record.Marks(l)))
	}
}

// FuzzFork makes marks of pairs of bytes.
func FuzzFork(f *testing.F) {
	f.Add([]byte{1, 1, 2, 4}, 6, []byte{1, 1, 3, 5}, 7)
	f.Add([]byte{0, 200, 1, 1}, -1, []byte{}, 9)
	f.Fuzz(func(t *testing.T, a []byte, lastA int, b []byte, lastB int) {
		of := func(bytes []byte) []api.Mark {
			var out []api.Mark
			for i := 1; i < len(bytes); i += 2 {
				out = append(out, api.Mark{Epoch: int(int8(bytes[i-1])), First: int(int8(bytes[i]))})
			}
			return out
		}
		checkFork(t, of(a), lastA%1000, of(b), lastB%1000)
	})
}
