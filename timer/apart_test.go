package timer_test

import (
	"fmt"
	"math"
	"slices"
	"strings"
	"testing"

	"bucketline/api"
	"bucketline/timer"
)

// told are all answers that lists can share memory in.
func told(x timer.Timers) []timer.Timers {
	anew, _ := timer.Set(x, "b", 5)
	other, _ := timer.Set(x, "new", 6)
	another, _ := timer.Set(x, "next", 6)
	left, _ := timer.Due(x, 3)
	all, _ := timer.Due(x, math.MinInt)
	none, _ := timer.Due(x, math.MaxInt)
	return []timer.Timers{x, anew, other, another, timer.Clear(x, "b"), timer.Clear(x, "e"), timer.Clear(x, "z"), left, all, none}
}

func copies(all []timer.Timers) []row {
	var l []row
	for _, x := range all {
		l = append(l, slices.Clone(x.L))
	}
	return l
}

// overwrite writes into a list, and into what its memory has behind it.
func overwrite(l row) {
	memory := l[:cap(l)]
	for i := range memory {
		memory[i] = timer.Timer{Name: "written", At: -7}
	}
}

// P3: what a caller writes into what was told, or appends to it, changes nothing that was told elsewhere, and not what was handed in.
func TestToldApart(t *testing.T) {
	for _, l := range []row{nil, {}, {{"b", 3}}, {{"b", 3}, {"c", 4}}, {{"a", 1}, {"b", 3}, {"c", 3}, {"d", 5}, {"e", 7}}, many(63), many(64)} {
		for i := range told(timer.Timers{}) {
			all := told(timer.Timers{L: slices.Grow(slices.Clone(l), 4)})
			was := copies(all)
			longer := append(all[i].L, timer.Timer{Name: "more", At: 1})
			overwrite(all[i].L)
			overwrite(longer)
			for j, x := range all {
				if j != i && !slices.Equal(x.L, was[j]) {
					t.Errorf("of %v: answer %d is %v, when answer %d is written into", l, j, row(x.L), i)
				}
			}
		}
	}
}

// P3: what is written into the list that was handed in is not seen in what was told of it, and the names of two answers are apart.
func TestNotKept(t *testing.T) {
	l := row{{"a", 1}, {"b", 3}, {"c", 3}, {"d", 5}}
	x := timer.Timers{L: l}
	all := told(x)[1:]
	was := copies(all)
	_, names := timer.Due(x, 3)
	_, others := timer.Due(x, 3)
	overwrite(l)
	for i := range others[:cap(others)] {
		others[:cap(others)][i] = "written"
	}
	for i, y := range all {
		if !slices.Equal(y.L, was[i]) {
			t.Errorf("answer %d is %v, was %v", i+1, row(y.L), was[i])
		}
	}
	if !slices.Equal(names, []string{"a", "b", "c"}) {
		t.Errorf("names are %q", names)
	}
}

// P4: what is asked twice is told twice.
func TestAskedTwice(t *testing.T) {
	x := timer.Timers{L: row{{"a", 1}, {"b", 3}, {"c", 3}, {"d", 5}, {"e", 7}}}
	first, second := told(x), told(x)
	for i := range first {
		if !slices.Equal(first[i].L, second[i].L) {
			t.Errorf("answer %d is %v, and %v", i, row(first[i].L), row(second[i].L))
		}
	}
	_, names := timer.Due(x, 5)
	_, again := timer.Due(x, 5)
	if !slices.Equal(names, again) {
		t.Errorf("Due tells %q, and %q", names, again)
	}
}

// notRight are timers of which the chapter promises no more than some answer.
func notRight() []row {
	alike := slices.Repeat(row{{"a", 5}}, 64)
	backwards := many(64)
	slices.Reverse(backwards)
	return []row{
		{{"a", 5}, {"a", 5}},
		{{"a", 5}, {"b", 5}, {"a", 7}},
		{{"a", 7}, {"b", 5}, {"a", 3}},
		{{"b", 5}, {"a", 5}},
		{{"a", 5}, {"b", 3}},
		{{"c", 9}, {"a", math.MinInt}, {"b", math.MaxInt}, {"d", 0}},
		alike, backwards, many(65), many(66), many(1000),
		slices.Concat(many(64), many(64)),
		slices.Repeat(row{{"a", 5}}, 1000),
		slices.Repeat(row{{"z", 5}, {"a", -5}, {"t10", 0}}, 1000),
	}
}

// P1, P3 and P7: of timers that are not right some answer comes, and they are as they were.
func TestNotRight(t *testing.T) {
	times := []int{math.MinInt, -1, 0, 4, 5, 6, 40, math.MaxInt}
	for _, l := range notRight() {
		for _, name := range []string{"", "a", "b", "t10", "t73", "t74", "z", "\xff"} {
			for _, when := range times {
				if _, err := set(t, l, name, when); err != api.OK && err != api.ErrLong {
					t.Errorf("Set(%q, %d) of %v: %d", name, when, l, err)
				}
			}
			cleared(t, l, name)
			if when, there := at(t, l, name); !there && when != 0 {
				t.Errorf("At(%q) of %v = %d, false", name, l, when)
			}
		}
		for _, now := range times {
			due(t, l, now)
		}
		next(t, l)
	}
}

// P1: long lists and long names end.
func TestLong(t *testing.T) {
	l := make(row, 1<<18)
	for i := range l {
		l[i] = timer.Timer{Name: fmt.Sprint(i), At: i}
	}
	if got, err := set(t, l, "new", 5); err != api.ErrLong || got != nil {
		t.Errorf("Set of many: %d, %d", len(got), err)
	}
	cleared(t, l, "5")
	due(t, l, 1<<17)
	long := strings.Repeat("a", 1<<20)
	got, err := set(t, row{{long + "b", 5}}, long, 5)
	if err != api.OK || !slices.Equal(got, row{{long, 5}, {long + "b", 5}}) {
		t.Errorf("Set of a long name: %d timers, %d", len(got), err)
	}
	if when, there := at(t, got, long+"b"); when != 5 || !there {
		t.Errorf("At of a long name: %d, %t", when, there)
	}
}
