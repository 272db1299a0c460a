package log_test

import (
	"fmt"
	"math/rand/v2"
	"slices"
	"testing"

	"bucketline/api"
	"bucketline/disk"
	"bucketline/log"
)

// pair is a log on its disk, and one that follows the words on a disk of its own.
type pair struct {
	d *disk.Disk
	l *log.Log
	r *ref
}

// pairOf opens a disk by both; nil, if that errs.
func pairOf(t testing.TB, what string, d *disk.Disk) *pair {
	t.Helper()
	r, wantErr := refOpen(d.Clone())
	l, err := log.Open(d)
	checkDisk(t, what, d, tell(r.d), err, wantErr)
	if err != api.OK {
		return nil
	}
	return &pair{d, l, r}
}

// anyEntries mostly go on from a log; pick answers a number below n.
func (p *pair) anyEntries(pick func(n int) int) []api.Entry {
	pos, epoch := p.l.Last()+1, max(p.l.Epoch(), 1)
	var l []api.Entry
	for range pick(12) {
		epoch += pick(5) / 4
		l = append(l, plain(pos, epoch))
		pos++
	}
	if len(l) > 0 && pick(8) == 0 {
		e := &l[pick(len(l))]
		e.Pos += pick(3) - 1
		e.Epoch += pick(3) - 1
	}
	return l
}

// anyBytes are such as a crash or another's hand may leave.
func (p *pair) anyBytes(pick func(n int) int) string {
	last := p.l.Last()
	switch pick(5) {
	case 0:
		return "0123456789"[:pick(11)]
	case 1:
		return headOf(last + pick(3))
	case 2:
		s := rowBytes(plain(last+1, p.l.Epoch()+1))
		return s[:pick(len(s)+1)]
	case 3:
		return bytesOf(1, many(1, 1, pick(3))...)
	}
	return rowBytes(plain(last+pick(3), 1+pick(4)))
}

// act is a call of both; stops are what the disk was within it.
func (p *pair) act(pick func(n int) int) (what string, stops []*disk.Disk, got, want api.Errno) {
	p.r.stops = []*disk.Disk{p.r.d.Clone()}
	if pick(3) > 0 {
		e := p.anyEntries(pick)
		what, got, want = "Append of"+brief(e), p.l.Append(e), p.r.Append(e)
	} else {
		last := p.l.Last() + 2 - pick(min(p.l.Last(), 30)+4)
		what, got, want = fmt.Sprintf("Truncate(%d)", last), p.l.Truncate(last), p.r.Truncate(last)
	}
	return what, p.r.stops, got, want
}

// change is done to both disks by another hand, and they are opened behind it.
func (p *pair) change(t testing.TB, pick func(n int) int) *pair {
	t.Helper()
	d := p.d.Clone()
	name := "temp"
	if segs := p.l.Segs(); len(segs) > 0 && pick(4) > 0 {
		name = refName(segs[len(segs)-1-pick(min(len(segs), 3))])
	}
	what := "another hand at " + name
	if pick(3) > 0 {
		d.Append(name, p.anyBytes(pick))
	} else {
		d.Delete(name)
	}
	d.Append(refName(1+pick(40)), p.anyBytes(pick))
	d.Crash([]int{pick(60), pick(60), pick(60), pick(60)})
	if q := pairOf(t, what, d); q != nil {
		return q
	}
	return p
}

// step does a call, asks that log and words tell one thing, and then may crash within the call.
func (p *pair) step(t testing.TB, pick func(n int) int) *pair {
	t.Helper()
	if pick(12) == 0 {
		return p.change(t, pick)
	}
	was := p.r.all()
	what, stops, got, want := p.act(pick)
	sameAs(t, what, p.d, p.l, p.r, got, want)
	checkOpened(t, what, p.d, p.r.all(), p.r.numbers())
	now := p.r.all()
	if pick(4) > 0 {
		return p
	}
	stop := stops[pick(len(stops))]
	d := keeping(stop, pick(loose(stop)+1))
	q := pairOf(t, what+", stopped", d)
	if q == nil {
		return p
	}
	longer, shorter := now, was
	if len(was) > len(now) {
		longer, shorter = was, now
	}
	if e := q.r.all(); !isBeginning(e, longer, len(shorter)) {
		t.Fatalf("%s, stopped:%s, of%s and%s", what, brief(e), brief(was), brief(now))
	}
	return q
}

// L1 to L5: long rows of calls, on disks with much room and with little, with crashes within them and other hands between.
func TestLongRowsOfCalls(t *testing.T) {
	t.Parallel()
	for seed := range 120 {
		pick := rand.New(rand.NewPCG(11, uint64(seed))).IntN
		d := made(t, 1+pick(100*(1+seed)))
		if seed%3 == 0 {
			crowd(t, d, disk.MaxFiles-pick(9))
		}
		p := pairOf(t, "a fresh disk", d)
		for range 100 {
			p = p.step(t, pick)
		}
	}
}

// FuzzCalls: L1 to L5: rows of calls that bytes tell.
func FuzzCalls(f *testing.F) {
	f.Add([]byte{})
	f.Add([]byte{200, 1, 1, 11, 0, 0, 0, 0, 0, 0, 0, 0, 0, 0, 0, 1, 0, 1, 0, 9, 1, 0, 3, 40})
	f.Fuzz(func(t *testing.T, bytes []byte) {
		pick := func(n int) int {
			if len(bytes) == 0 {
				return 0
			}
			k := int(bytes[0]) % n
			bytes = bytes[1:]
			return k
		}
		p := pairOf(t, "a fresh disk", made(t, 1+20*pick(256)))
		for steps := 0; len(bytes) > 0 && steps < 100; steps++ {
			p = p.step(t, pick)
		}
	})
}

// FuzzOpen: L1: three segments of any bytes, with a manifest that names them.
func FuzzOpen(f *testing.F) {
	e := many(1, 1, 5)
	f.Add(bytesOf(1, e[:2]...), bytesOf(3, e[2:]...)+"torn", headOf(6), 0)
	f.Add(headOf(1), bytesOf(1, slices.Concat(e, many(6, 2, 1))...), bytesOf(7, many(7, 1, 1)...), 300)
	f.Fuzz(func(t *testing.T, one, two, three string, room int) {
		d := laid(t, "manifest", manifestOf(4, 1, 2, 3), "seg-1", one[:min(len(one), 9999)], "seg-2", two[:min(len(two), 9999)], "seg-3", three[:min(len(three), 9999)])
		checkOpen(t, "any bytes", resized(t, d, d.Used()+min(max(room, 0), 1<<20)))
	})
}
