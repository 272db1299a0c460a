package timer_test

import (
	"bytes"
	"cmp"
	"fmt"
	"maps"
	"math"
	"math/rand/v2"
	"slices"
	"testing"

	"bucketline/api"
	"bucketline/timer"
)

// words follows T1 and T2, one word after another: names, and their times.
type words map[string]int

func (w words) row() row {
	var l row
	for name, when := range w {
		l = append(l, timer.Timer{Name: name, At: when})
	}
	slices.SortFunc(l, func(a, b timer.Timer) int {
		return cmp.Or(cmp.Compare(a.At, b.At), bytes.Compare([]byte(a.Name), []byte(b.Name)))
	})
	return l
}

func (w words) set(name string, when int) api.Errno {
	if _, there := w[name]; !there && len(w) == 64 {
		return api.ErrLong
	}
	w[name] = when
	return api.OK
}

func (w words) due(now int) []string {
	var names []string
	for _, x := range w.row() {
		if x.At <= now {
			names = append(names, x.Name)
			delete(w, x.Name)
		}
	}
	return names
}

const (
	doSet = iota
	doClear
	doDue
)

type call struct {
	kind int
	name string
	when int
}

// on does a call to timers, and by the words; both must tell one thing. What was there before stays.
func (c call) on(t testing.TB, l row, before words) (row, words) {
	t.Helper()
	w := maps.Clone(before)
	var got row
	var err, wantErr api.Errno
	var names, wantNames []string
	switch c.kind {
	case doSet:
		got, err = set(t, l, c.name, c.when)
		wantErr = w.set(c.name, c.when)
	case doClear:
		got = cleared(t, l, c.name)
		delete(w, c.name)
	case doDue:
		got, names = due(t, l, c.when)
		wantNames = w.due(c.when)
	}
	if err != wantErr || !slices.Equal(names, wantNames) {
		t.Fatalf("%v of %v: %d, %q, want %d, %q", c, l, err, names, wantErr, wantNames)
	}
	if err != api.OK {
		return l, before
	}
	c.look(t, l, got, w)
	return got, w
}

// look asks of what is there now all that can be asked.
func (c call) look(t testing.TB, l, got row, w words) {
	t.Helper()
	want := w.row()
	if !slices.Equal(got, want) {
		t.Fatalf("%v of %v = %v, want %v", c, l, got, want)
	}
	wantNext := -1
	if len(want) > 0 {
		wantNext = want[0].At
	}
	if when := next(t, got); when != wantNext {
		t.Fatalf("Next of %v = %d", got, when)
	}
	wantAt, wantThere := w[c.name]
	if when, there := at(t, got, c.name); when != wantAt || there != wantThere {
		t.Fatalf("At(%q) of %v = %d, %t", c.name, got, when, there)
	}
}

// T1 to T3: every row of four calls, out of twenty.
func TestShortRowsOfCalls(t *testing.T) {
	t.Parallel()
	var calls []call
	for _, name := range []string{"", "a", "ab", "\xff"} {
		for when := -1; when <= 1; when++ {
			calls = append(calls, call{doSet, name, when})
		}
		calls = append(calls, call{kind: doClear, name: name})
	}
	for now := -2; now <= 1; now++ {
		calls = append(calls, call{kind: doDue, when: now})
	}
	var goOn func(l row, w words, left int)
	goOn = func(l row, w words, left int) {
		if left == 0 {
			return
		}
		for _, c := range calls {
			nextRow, nextWords := c.on(t, l, w)
			goOn(nextRow, nextWords, left-1)
		}
	}
	goOn(nil, words{}, 4)
}

// anyCall is of up to 80 names, so that there is not room for all; pick answers a number below n.
func anyCall(pick func(n int) int, names, times int) call {
	when := pick(times) - times/2
	switch pick(40) {
	case 0:
		when = math.MinInt
	case 1:
		when = math.MaxInt
	}
	c := call{doSet, fmt.Sprint("n", pick(names)), when}
	switch pick(12) {
	case 0, 1:
		c.kind = doClear
	case 2:
		c.kind, c.when = doDue, when-times/3
	}
	return c
}

// T1 to T3: long rows of calls, of few and of many names and times.
func TestLongRowsOfCalls(t *testing.T) {
	t.Parallel()
	for seed := range 120 {
		pick := rand.New(rand.NewPCG(14, uint64(seed))).IntN
		names, times := 1+pick(80), 1+pick(1<<(seed%12))
		var l row
		w := words{}
		for range 400 {
			l, w = anyCall(pick, names, times).on(t, l, w)
		}
	}
}

// FuzzCalls: T1 to T3: rows of calls that bytes tell.
func FuzzCalls(f *testing.F) {
	f.Add([]byte{})
	f.Add([]byte{80, 9, 1, 9, 9, 9, 2, 9, 9, 9, 3, 9, 9, 9, 9, 9, 2})
	f.Fuzz(func(t *testing.T, bytes []byte) {
		pick := func(n int) int {
			if len(bytes) == 0 {
				return 0
			}
			k := int(bytes[0]) % n
			bytes = bytes[1:]
			return k
		}
		names, times := 1+pick(80), 1+pick(40)
		var l row
		w := words{}
		for steps := 0; len(bytes) > 0 && steps < 500; steps++ {
			l, w = anyCall(pick, names, times).on(t, l, w)
		}
	})
}
