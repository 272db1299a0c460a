package timer_test

import (
	"fmt"
	"math"
	"slices"
	"strings"
	"testing"

	"bucketline/api"
	"bucketline/timer"
)

type row []timer.Timer

// String tells the first timers: names may have any bytes, and lists any length.
func (l row) String() string {
	var parts []string
	for _, x := range l[:min(len(l), 70)] {
		parts = append(parts, fmt.Sprintf("%q %d", x.Name, x.At))
	}
	return fmt.Sprintf("(%s) of %d", strings.Join(parts, ", "), len(l))
}

// loan is a list that is handed in. Its memory goes on behind its length, with timers that are told if they are read.
type loan struct {
	what        string
	memory, was row
	length      int
}

func lend(what string, l row, name string) *loan {
	memory := slices.Concat(l, row{{name, math.MinInt}, {name, 0}, {name, math.MaxInt}})
	return &loan{what, memory, slices.Clone(memory), len(l)}
}

func (o *loan) timers() timer.Timers { return timer.Timers{L: o.memory[:o.length]} }

// back asks that what was handed in is as it was, even when somebody writes into all of what was told; it answers a copy of that.
func (o *loan) back(t testing.TB, told row) row {
	t.Helper()
	own := slices.Clone(told)
	overwrite(told)
	o.same(t)
	return own
}

func (o *loan) same(t testing.TB) {
	t.Helper()
	if !slices.Equal(o.memory, o.was) {
		t.Fatalf("%s of %v: what was handed in is now %v", o.what, o.was[:o.length], o.memory)
	}
}

func set(t testing.TB, l row, name string, at int) (row, api.Errno) {
	t.Helper()
	o := lend(fmt.Sprintf("Set(%q, %d)", name, at), l, name)
	x, err := timer.Set(o.timers(), name, at)
	if err != api.OK && len(x.L) > 0 {
		t.Fatalf("%s of %v: %d, and %v", o.what, l, err, row(x.L))
	}
	return o.back(t, x.L), err
}

func cleared(t testing.TB, l row, name string) row {
	t.Helper()
	o := lend(fmt.Sprintf("Clear(%q)", name), l, name)
	return o.back(t, timer.Clear(o.timers(), name).L)
}

func at(t testing.TB, l row, name string) (int, bool) {
	t.Helper()
	o := lend(fmt.Sprintf("At(%q)", name), l, name)
	when, there := timer.At(o.timers(), name)
	o.same(t)
	return when, there
}

func due(t testing.TB, l row, now int) (row, []string) {
	t.Helper()
	o := lend(fmt.Sprintf("Due(%d)", now), l, "trap")
	x, names := timer.Due(o.timers(), now)
	return o.back(t, x.L), names
}

func next(t testing.TB, l row) int {
	t.Helper()
	o := lend("Next", l, "trap")
	when := timer.Next(o.timers())
	o.same(t)
	return when
}

// many are timers t10, t11 and so on, one a time from 10 on.
func many(count int) row {
	var l row
	for i := range count {
		l = append(l, timer.Timer{Name: fmt.Sprint("t", 10+i), At: 10 + i})
	}
	return l
}

// T1 and T2: the chapter's example.
func TestExample(t *testing.T) {
	var x timer.Timers
	calls := row{{"b", 5}, {"a", 5}, {"c", 3}}
	for _, c := range calls {
		y, err := timer.Set(x, c.Name, c.At)
		if err != api.OK {
			t.Fatalf("Set(%q, %d): %d", c.Name, c.At, err)
		}
		x = y
	}
	left, names := timer.Due(x, 5)
	if len(left.L) != 0 || !slices.Equal(names, []string{"c", "a", "b"}) {
		t.Errorf("Due(5) of %v = %v, %q", row(x.L), row(left.L), names)
	}
}

// T1: a name that is not there gets its place by its time, and of one time by its bytes.
func TestSetOfAnother(t *testing.T) {
	some := row{{"b", 3}, {"d", 5}, {"f", 5}, {"a", 9}}
	for _, c := range []struct {
		what  string
		l     row
		name  string
		at    int
		place int
	}{
		{"the first one", nil, "a", 5, 0},
		{"the first one, of a list without elements", row{}, "a", 5, 0},
		{"the first one, at 0", nil, "a", 0, 0},
		{"the first one, below 0", nil, "a", -1, 0},
		{"the first one, without a name", nil, "", 5, 0},
		{"ahead of all", some, "z", 2, 0},
		{"ahead of all, below 0", some, "z", -1, 0},
		{"ahead of all, at the least number", some, "z", math.MinInt, 0},
		{"among the others", some, "z", 4, 1},
		{"among the others, behind some of one time", some, "A", 6, 3},
		{"behind all", some, "A", 10, 4},
		{"behind all, at the greatest number", some, "A", math.MaxInt, 4},
		{"at the time of the first, ahead of it", some, "a2", 3, 0},
		{"at the time of the first, behind it", some, "c", 3, 1},
		{"at the time of two, ahead of them", some, "c", 5, 1},
		{"at the time of two, among them", some, "e", 5, 2},
		{"at the time of two, behind them", some, "g", 5, 3},
		{"at the time of the last, ahead of it", some, "A", 9, 3},
		{"at the time of the last, behind it", some, "b2", 9, 4},
		{"a name that another begins with", row{{"ab", 5}}, "a", 5, 0},
		{"a name that begins with another", row{{"a", 5}}, "ab", 5, 1},
		{"a name between two that begin alike", row{{"a", 5}, {"abc", 5}}, "ab", 5, 1},
		{"no name, of one time", row{{"\x00", 5}, {"a", 5}}, "", 5, 0},
		{"a byte of 0, of one time", row{{"", 5}, {"\x01", 5}}, "\x00", 5, 1},
		{"a great letter, of one time", row{{"Z", 5}, {"a", 5}}, "b", 5, 2},
		{"a great letter behind it, of one time", row{{"a", 5}}, "Z", 5, 0},
		{"digits, of one time", row{{"10", 5}, {"2", 5}}, "9", 5, 2},
		{"digits, by bytes", row{{"2", 5}, {"9", 5}}, "10", 5, 0},
		{"a byte above 127, behind those below", row{{"a", 5}, {"\x7f", 5}}, "\x80", 5, 2},
		{"a byte above 127, by its number", row{{"\x80", 5}, {"\xff", 5}}, "\xc3\xa9", 5, 1},
		{"a byte above 127, ahead of 255", row{{"z", 5}, {"\xff", 5}}, "\xfe\xff\xff", 5, 1},
		{"a rune of three bytes, behind one of two", row{{"\xc3\xa9", 5}}, "\xe2\x82\xac", 5, 1},
		{"times, not names", row{{"a", 2}, {"b", 1 << 40}}, "b2", 1 << 30, 1},
		{"far times below 0", row{{"a", math.MinInt}, {"b", math.MaxInt}}, "c", -1, 1},
		{"the least number, behind by name", row{{"a", math.MinInt}, {"b", math.MaxInt}}, "c", math.MinInt, 1},
		{"the greatest number, ahead by name", row{{"a", math.MinInt}, {"b", math.MaxInt}}, "a2", math.MaxInt, 1},
	} {
		got, err := set(t, c.l, c.name, c.at)
		want := slices.Insert(slices.Clone(c.l), c.place, timer.Timer{Name: c.name, At: c.at})
		if err != api.OK || !slices.Equal(got, want) {
			t.Errorf("%s: Set(%q, %d) of %v = %v, %d", c.what, c.name, c.at, c.l, got, err)
		}
	}
}

// T1: a name that is there gets another time, or the same, and there is one of it.
func TestSetAnew(t *testing.T) {
	some := row{{"b", 3}, {"d", 5}, {"f", 5}, {"a", 9}}
	for _, c := range []struct {
		what string
		name string
		at   int
		want row
	}{
		{"the first one, at the same time", "b", 3, some},
		{"one in the middle, at the same time", "d", 5, some},
		{"the other one in the middle, at the same time", "f", 5, some},
		{"the last one, at the same time", "a", 9, some},
		{"the first one, earlier", "b", 2, row{{"b", 2}, {"d", 5}, {"f", 5}, {"a", 9}}},
		{"the first one, later, and first still", "b", 4, row{{"b", 4}, {"d", 5}, {"f", 5}, {"a", 9}}},
		{"the first one, at the time of two", "b", 5, row{{"b", 5}, {"d", 5}, {"f", 5}, {"a", 9}}},
		{"the first one, later", "b", 6, row{{"d", 5}, {"f", 5}, {"b", 6}, {"a", 9}}},
		{"the first one, at the last one's time", "b", 9, row{{"d", 5}, {"f", 5}, {"a", 9}, {"b", 9}}},
		{"the first one, last", "b", math.MaxInt, row{{"d", 5}, {"f", 5}, {"a", 9}, {"b", math.MaxInt}}},
		{"one in the middle, first", "f", math.MinInt, row{{"f", math.MinInt}, {"b", 3}, {"d", 5}, {"a", 9}}},
		{"one in the middle, at the first one's time", "d", 3, row{{"b", 3}, {"d", 3}, {"f", 5}, {"a", 9}}},
		{"one in the middle, earlier", "f", 4, row{{"b", 3}, {"f", 4}, {"d", 5}, {"a", 9}}},
		{"one in the middle, later", "d", 6, row{{"b", 3}, {"f", 5}, {"d", 6}, {"a", 9}}},
		{"one in the middle, at the last one's time", "d", 9, row{{"b", 3}, {"f", 5}, {"a", 9}, {"d", 9}}},
		{"one in the middle, last", "f", 10, row{{"b", 3}, {"d", 5}, {"a", 9}, {"f", 10}}},
		{"the last one, first", "a", 0, row{{"a", 0}, {"b", 3}, {"d", 5}, {"f", 5}}},
		{"the last one, at the first one's time", "a", 3, row{{"a", 3}, {"b", 3}, {"d", 5}, {"f", 5}}},
		{"the last one, at the time of two", "a", 5, row{{"b", 3}, {"a", 5}, {"d", 5}, {"f", 5}}},
		{"the last one, earlier, and last still", "a", 6, row{{"b", 3}, {"d", 5}, {"f", 5}, {"a", 6}}},
		{"the last one, later", "a", 10, row{{"b", 3}, {"d", 5}, {"f", 5}, {"a", 10}}},
		{"the last one, below 0", "a", -1, row{{"a", -1}, {"b", 3}, {"d", 5}, {"f", 5}}},
	} {
		if got, err := set(t, some, c.name, c.at); err != api.OK || !slices.Equal(got, c.want) {
			t.Errorf("%s: Set(%q, %d) of %v = %v, %d", c.what, c.name, c.at, some, got, err)
		}
	}
	for _, when := range []int{math.MinInt, -1, 0, 4, 5, 6, math.MaxInt} {
		if got, err := set(t, row{{"a", 5}}, "a", when); err != api.OK || !slices.Equal(got, row{{"a", when}}) {
			t.Errorf("the only one, Set at %d: %v, %d", when, got, err)
		}
	}
}

// T1: there are 64 at most; of these each can be set anew, and no other one.
func TestSetOfMany(t *testing.T) {
	if timer.MaxTimers != 64 {
		t.Errorf("MaxTimers is %d", timer.MaxTimers)
	}
	for count := range 70 {
		for _, when := range []int{math.MinInt, 0, 10, 40, 73, math.MaxInt} {
			got, err := set(t, many(count), "new", when)
			if count > 63 && (err != api.ErrLong || got != nil) {
				t.Errorf("Set at %d of %d: %d timers, %d", when, count, len(got), err)
			}
			if count <= 63 && (err != api.OK || len(got) != count+1 || !slices.Contains(got, timer.Timer{Name: "new", At: when})) {
				t.Errorf("Set at %d of %d: %v, %d", when, count, got, err)
			}
		}
	}
	full := many(64)
	for i, x := range full {
		others := slices.Delete(slices.Clone(full), i, i+1)
		for _, c := range []struct{ at, place int }{{math.MinInt, 0}, {-1, 0}, {x.At, i}, {math.MaxInt, 63}} {
			want := slices.Insert(slices.Clone(others), c.place, timer.Timer{Name: x.Name, At: c.at})
			if got, err := set(t, full, x.Name, c.at); err != api.OK || !slices.Equal(got, want) {
				t.Errorf("Set(%q, %d) of 64: %v, %d", x.Name, c.at, got, err)
			}
		}
		got, err := set(t, cleared(t, full, x.Name), "new", x.At)
		if want := slices.Insert(others, i, timer.Timer{Name: "new", At: x.At}); err != api.OK || !slices.Equal(got, want) {
			t.Errorf("Set(new, %d) of 64 without %q: %v, %d", x.At, x.Name, got, err)
		}
	}
	for _, name := range []string{"", "t", "t1", "t100", "T10", "t10 "} {
		if got, err := set(t, full, name, 10); err != api.ErrLong || got != nil {
			t.Errorf("Set(%q, 10) of 64: %v, %d", name, got, err)
		}
	}
}

// T1: Clear takes out the one of a name, and no other one.
func TestClear(t *testing.T) {
	some := row{{"b", 3}, {"", 5}, {"ab", 5}, {"\xff", 5}, {"a", 9}}
	for i, x := range some {
		want := slices.Delete(slices.Clone(some), i, i+1)
		if got := cleared(t, some, x.Name); !slices.Equal(got, want) {
			t.Errorf("Clear(%q) of %v = %v", x.Name, some, got)
		}
		if got := cleared(t, row{x}, x.Name); len(got) != 0 {
			t.Errorf("Clear(%q) of the only one = %v", x.Name, got)
		}
		if got := cleared(t, want, x.Name); !slices.Equal(got, want) {
			t.Errorf("Clear(%q) of %v = %v", x.Name, want, got)
		}
	}
	for _, name := range []string{"A", "abc", "c", "\xfe", "\x00", " b"} {
		if got := cleared(t, some, name); !slices.Equal(got, some) {
			t.Errorf("Clear(%q) of %v = %v", name, some, got)
		}
	}
	for _, none := range []row{nil, {}} {
		if got := cleared(t, none, "a"); len(got) != 0 {
			t.Errorf("Clear of no timers = %v", got)
		}
	}
	left := many(64)
	for i := range 64 {
		left = cleared(t, left, fmt.Sprint("t", 10+i))
		if !slices.Equal(left, many(64)[i+1:]) {
			t.Fatalf("behind %d of Clear: %v", i+1, left)
		}
	}
}

// T1: At tells the time of a name as long as it is there.
func TestAt(t *testing.T) {
	some := row{{"b", math.MinInt}, {"c", -1}, {"", 0}, {"ab", 5}, {"\xff", 5}, {"a", math.MaxInt}}
	for i, x := range some {
		if when, there := at(t, some, x.Name); when != x.At || !there {
			t.Errorf("At(%q) of %v = %d, %t", x.Name, some, when, there)
		}
		l := slices.Delete(slices.Clone(some), i, i+1)
		if when, there := at(t, l, x.Name); when != 0 || there {
			t.Errorf("At(%q) of %v = %d, %t", x.Name, l, when, there)
		}
		if when, there := at(t, cleared(t, some, x.Name), x.Name); when != 0 || there {
			t.Errorf("At(%q) behind Clear = %d, %t", x.Name, when, there)
		}
		left, _ := due(t, some, x.At)
		if when, there := at(t, left, x.Name); when != 0 || there {
			t.Errorf("At(%q) behind Due(%d) = %d, %t", x.Name, x.At, when, there)
		}
		anew, _ := set(t, some, x.Name, 7)
		if when, there := at(t, anew, x.Name); when != 7 || !there {
			t.Errorf("At(%q) set anew = %d, %t", x.Name, when, there)
		}
	}
	for _, name := range []string{"A", "abc", "d", "\xfe", "\x00", "b "} {
		if when, there := at(t, some, name); when != 0 || there {
			t.Errorf("At(%q) of %v = %d, %t", name, some, when, there)
		}
	}
	for _, none := range []row{nil, {}} {
		if when, there := at(t, none, ""); when != 0 || there {
			t.Errorf("At of no timers = %d, %t", when, there)
		}
	}
}
