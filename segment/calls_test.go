package segment_test

import (
	"fmt"
	"math/rand/v2"
	"testing"

	"bucketline/api"
	"bucketline/disk"
	"bucketline/segment"
)

// pair is a disk, and one that the reference writes.
type pair struct {
	got, want *disk.Disk
}

func newPair(t testing.TB, room int) pair {
	return pair{made(t, room), made(t, room)}
}

// both is done to the two disks of a pair by their own calls: so files come about that no segment's call makes.
func (p pair) both(do func(d *disk.Disk) api.Errno) (api.Errno, api.Errno) {
	return do(p.got), do(p.want)
}

// anyEntries mostly go on from a segment; pick answers a number below n.
func anyEntries(s segment.Segment, pick func(n int) int) []api.Entry {
	pos, epoch := s.First+len(s.Entries), 1
	if len(s.Entries) > 0 {
		epoch = s.Entries[len(s.Entries)-1].Epoch
	}
	var l []api.Entry
	for range pick(4) {
		epoch += pick(3) / 2
		l = append(l, plain(pos, epoch))
		pos++
	}
	if len(l) > 0 && pick(4) == 0 {
		e := &l[pick(len(l))]
		e.Pos += pick(3) - 1
		e.Epoch += pick(3) - 1
	}
	return l
}

// anyBytes are such as a crash or another's hand may leave.
func anyBytes(s segment.Segment, pick func(n int) int) string {
	whole := bytesOf(1 + pick(3))
	switch pick(4) {
	case 0:
		whole = rowBytes(plain(s.First+len(s.Entries)+pick(2), 1+pick(4)))
	case 1:
		whole = framed("e")
	case 2:
		return "0123456789"[:pick(11)]
	}
	if pick(2) == 0 {
		return whole[:pick(len(whole)+1)]
	}
	return whole
}

// call does one of all calls to both disks.
func (p pair) call(pick func(n int) int) (what string, got, want api.Errno) {
	n := pick(4)
	s, _ := refLoad(p.want, n)
	switch pick(12) {
	case 0, 1:
		first := pick(4)
		return fmt.Sprintf("Create(%d, %d)", n, first), segment.Create(p.got, n, first), refCreate(p.want, n, first)
	case 2, 3, 4, 5:
		l := anyEntries(s, pick)
		return fmt.Sprintf("Add(%d, %s)", n, brief(segment.Segment{Entries: l})), segment.Add(p.got, n, l), refAdd(p.want, n, l)
	case 6, 7:
		last := s.First + pick(len(s.Entries)+4) - 2
		return fmt.Sprintf("Cut(%d, %d)", n, last), segment.Cut(p.got, n, last), refCut(p.want, n, last)
	case 8, 9:
		name, bytes := []string{"temp", refName(n), refName(n)}[pick(3)], anyBytes(s, pick)
		got, want = p.both(func(d *disk.Disk) api.Errno { return d.Append(name, bytes) })
		return fmt.Sprintf("Append(%q, %.40q)", name, bytes), got, want
	case 10:
		got, want = p.both(func(d *disk.Disk) api.Errno { return d.Delete(refName(n)) })
		return "Delete", got, want
	}
	keep := []int{pick(60), pick(60), pick(60), pick(60)}
	got, want = p.both(func(d *disk.Disk) api.Errno { d.Crash(keep); return api.OK })
	return fmt.Sprintf("Crash(%d)", keep), got, want
}

// check does a call, and asks that both disks are one, and that all segments are read as the reference does.
func (p pair) check(t testing.TB, pick func(n int) int) {
	t.Helper()
	before := tell(p.got)
	what, got, want := p.call(pick)
	if got != want || tell(p.got) != tell(p.want) {
		t.Fatalf("%s of %s: %d, %s, want %d, %s", what, before, got, tell(p.got), want, tell(p.want))
	}
	for n := range 4 {
		s, err := segment.Load(p.got, n)
		if wanted, wantErr := refLoad(p.want, n); !same(s, wanted) || err != wantErr {
			t.Fatalf("Load(%d) of %s: %s, %d, want %s, %d", n, tell(p.got), brief(s), err, brief(wanted), wantErr)
		}
	}
}

// S1 to S4: long rows of calls, on disks with much room and with little.
func TestLongRowsOfCalls(t *testing.T) {
	for seed := range 150 {
		pick := rand.New(rand.NewPCG(9, uint64(seed))).IntN
		p := newPair(t, 1+pick(20*(1+seed)))
		if seed%3 == 0 {
			p.both(func(d *disk.Disk) api.Errno { crowd(t, d, disk.MaxFiles-3); return api.OK })
		}
		for range 150 {
			p.check(t, pick)
		}
	}
}

// FuzzCalls: S1 to S4: rows of calls that bytes tell.
func FuzzCalls(f *testing.F) {
	f.Add([]byte{})
	f.Add([]byte{200, 1, 0, 1, 1, 2, 3, 0, 0, 0, 0, 0, 0, 0, 1, 6, 2})
	f.Fuzz(func(t *testing.T, bytes []byte) {
		pick := func(n int) int {
			if len(bytes) == 0 {
				return 0
			}
			k := int(bytes[0]) % n
			bytes = bytes[1:]
			return k
		}
		p := newPair(t, 1+10*pick(256))
		for steps := 0; len(bytes) > 0 && steps < 200; steps++ {
			p.check(t, pick)
		}
	})
}
