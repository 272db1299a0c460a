package timer_test

import (
	"fmt"
	"math"
	"math/rand/v2"
	"slices"
	"testing"

	"bucketline/api"
	"bucketline/timer"
)

// T2: those whose time is now or earlier are told, in their order, and the others are left.
func TestDue(t *testing.T) {
	some := row{{"y", math.MinInt}, {"z", -2}, {"d", 0}, {"b", 5}, {"c", 5}, {"\xff", 5}, {"a", 9}, {"", math.MaxInt}}
	for _, c := range []struct {
		what  string
		l     row
		now   int
		count int
	}{
		{"ahead of all", some[1:], math.MinInt, 0},
		{"just ahead of the first", some[1:], -3, 0},
		{"at the least number", some, math.MinInt, 1},
		{"just behind the least number", some, math.MinInt + 1, 1},
		{"just ahead of one below 0", some, -3, 1},
		{"at one below 0", some, -2, 2},
		{"just ahead of 0", some, -1, 2},
		{"at 0", some, 0, 3},
		{"between", some, 3, 3},
		{"just ahead of three of one time", some, 4, 3},
		{"at three of one time", some, 5, 6},
		{"just behind three of one time", some, 6, 6},
		{"just ahead of one", some, 8, 6},
		{"at one", some, 9, 7},
		{"just ahead of the greatest number", some, math.MaxInt - 1, 7},
		{"at the greatest number", some, math.MaxInt, 8},
		{"at the last", some[:7], 9, 7},
		{"behind all", some[:7], 10, 7},
		{"far behind all", some[:7], math.MaxInt, 7},
		{"ahead of the only one", some[3:4], 4, 0},
		{"at the only one", some[3:4], 5, 1},
		{"three of one time alone", some[3:6], 5, 3},
		{"ahead of three of one time alone", some[3:6], 4, 0},
		{"no timers, at 0", nil, 0, 0},
		{"no timers, at the greatest number", nil, math.MaxInt, 0},
		{"no timers, at the least number", row{}, math.MinInt, 0},
	} {
		var want []string
		for _, x := range c.l[:c.count] {
			want = append(want, x.Name)
		}
		left, names := due(t, c.l, c.now)
		if !slices.Equal(left, c.l[c.count:]) || !slices.Equal(names, want) {
			t.Errorf("%s: Due(%d) of %v = %v, %q", c.what, c.now, c.l, left, names)
		}
		again, none := due(t, left, c.now)
		if !slices.Equal(again, left) || len(none) != 0 {
			t.Errorf("%s: Due(%d) again, of %v = %v, %q", c.what, c.now, left, again, none)
		}
	}
}

// T2: of 64 as many are due as there are up to now.
func TestDueOfMany(t *testing.T) {
	full := many(64)
	for now := range 90 {
		left, names := due(t, full, now)
		count := min(max(now-9, 0), 64)
		if len(names) != count || !slices.Equal(left, full[count:]) {
			t.Errorf("Due(%d) of 64: %v, %q", now, left, names)
		}
		for i, name := range names {
			if name != full[i].Name {
				t.Errorf("Due(%d) of 64: %q", now, names)
			}
		}
	}
}

// T2: the least time; -1, if there is none.
func TestNext(t *testing.T) {
	for _, c := range []struct {
		l    row
		want int
	}{
		{nil, -1},
		{row{}, -1},
		{row{{"a", 5}}, 5},
		{row{{"a", 0}}, 0},
		{row{{"a", -1}}, -1},
		{row{{"a", -2}}, -2},
		{row{{"a", math.MinInt}}, math.MinInt},
		{row{{"a", math.MaxInt}}, math.MaxInt},
		{row{{"b", 3}, {"a", 5}}, 3},
		{row{{"b", 3}, {"c", 3}, {"a", 5}}, 3},
		{row{{"b", -7}, {"c", 0}, {"a", 5}}, -7},
		{row{{"b", 0}, {"c", 1}, {"a", 5}}, 0},
		{many(64), 10},
	} {
		if got := next(t, c.l); got != c.want {
			t.Errorf("Next of %v = %d, want %d", c.l, got, c.want)
		}
	}
}

// T2: Next follows what is set, cleared and due.
func TestNextBehindCalls(t *testing.T) {
	l, _ := set(t, nil, "a", 7)
	check := func(what string, want int) {
		t.Helper()
		if got := next(t, l); got != want {
			t.Errorf("Next behind %s: %d, want %d", what, got, want)
		}
	}
	check("a first one", 7)
	l, _ = set(t, l, "b", -3)
	check("an earlier one", -3)
	l, _ = set(t, l, "c", 9)
	check("a later one", -3)
	l, _ = set(t, l, "b", 8)
	check("the first one, set later", 7)
	l = cleared(t, l, "a")
	check("the first one's Clear", 8)
	l, _ = due(t, l, 7)
	check("Due of none", 8)
	l, _ = due(t, l, 8)
	check("Due of one", 9)
	l, _ = due(t, l, 9)
	check("Due of all", -1)
}

// clock is timers that are asked what is due as time goes on, with a list of its own of what was set, when, and how often each is due.
type clock struct {
	l       row
	now     int
	pending row
}

func (c *clock) drop(name string) {
	c.pending = slices.DeleteFunc(c.pending, func(x timer.Timer) bool { return x.Name == name })
}

func (c *clock) set(t *testing.T, name string, when int) {
	t.Helper()
	l, err := set(t, c.l, name, when)
	if err != api.OK {
		t.Fatalf("Set(%q, %d) of %v: %d", name, when, c.l, err)
	}
	c.drop(name)
	c.l, c.pending = l, append(c.pending, timer.Timer{Name: name, At: when})
}

func (c *clock) clear(t *testing.T, name string) {
	t.Helper()
	c.l = cleared(t, c.l, name)
	c.drop(name)
}

// goOn lets some time go by: each that waits must be due now, if it may wait no longer, and all that are due must have waited.
func (c *clock) goOn(t *testing.T, by int) {
	t.Helper()
	c.now += by
	left, names := due(t, c.l, c.now)
	for _, name := range names {
		i := slices.IndexFunc(c.pending, func(x timer.Timer) bool { return x.Name == name })
		if i < 0 || c.pending[i].At > c.now {
			t.Fatalf("at %d of %v %q is due, but %v wait", c.now, c.l, names, c.pending)
		}
		c.drop(name)
	}
	for _, x := range c.pending {
		if x.At <= c.now {
			t.Fatalf("at %d of %v %q is not due: %q", c.now, c.l, x.Name, names)
		}
	}
	c.l = left
}

// T3: what is set is due once, at its time, unless it is cleared, or set anew.
func TestDueOnce(t *testing.T) {
	for seed := range 100 {
		pick := rand.New(rand.NewPCG(12, uint64(seed))).IntN
		c := &clock{now: -pick(50)}
		for range 300 {
			name := fmt.Sprint("n", pick(2+seed%63))
			switch pick(5) {
			case 0:
				c.goOn(t, pick(4))
			case 1:
				c.clear(t, name)
			default:
				c.set(t, name, c.now+pick(12)-2)
			}
		}
		c.goOn(t, 12)
		if len(c.l) != 0 || len(c.pending) != 0 {
			t.Errorf("behind all times %v are left, %v wait", c.l, c.pending)
		}
	}
}

// T3: what goes from Next to Next misses none, and is never early.
func TestFromNextToNext(t *testing.T) {
	for seed := range 40 {
		pick := rand.New(rand.NewPCG(13, uint64(seed))).IntN
		c := &clock{}
		for i := range 64 {
			c.set(t, fmt.Sprint("n", i), pick(30)-10)
		}
		for steps := 0; len(c.l) > 0; steps++ {
			c.now = next(t, c.l) - 1
			before := len(c.l)
			c.goOn(t, 0)
			if len(c.l) != before {
				t.Fatalf("just ahead of Next, at %d, some are due", c.now)
			}
			c.goOn(t, 1)
			if len(c.l) == before || steps > 30 {
				t.Fatalf("at Next, %d, none is due of %v", c.now, c.l)
			}
		}
		if len(c.pending) != 0 {
			t.Errorf("%v still wait", c.pending)
		}
	}
}
