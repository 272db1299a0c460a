package manifest_test

import (
	"fmt"
	"math/rand/v2"
	"slices"
	"testing"

	"bucketline/api"
	"bucketline/disk"
	"bucketline/manifest"
)

// pair is a disk, one that the reference writes, and what calls said OK of: what was saved last, unless another hand wrote its file, and the highest epoch. Does no other hand write?
type pair struct {
	got, want *disk.Disk
	saved     manifest.Manifest
	touched   bool
	raised    int
	alone     bool
}

func newPair(t testing.TB, room int) *pair {
	return &pair{got: made(t, room), want: made(t, room), saved: of(1)}
}

// both is done to the two disks of a pair by their own calls: so files come about that no manifest's call makes.
func (p *pair) both(do func(d *disk.Disk) api.Errno) (api.Errno, api.Errno) {
	return do(p.got), do(p.want)
}

// anyManifest is mostly right; pick answers a number below n.
func anyManifest(pick func(n int) int) manifest.Manifest {
	all := append(rightOnes(), of(1+pick(9)))
	m := all[pick(len(all))]
	m.Segs = slices.Clone(m.Segs)
	if len(m.Segs) > 0 && pick(3) == 0 {
		m.Segs[pick(len(m.Segs))] += pick(3) - 1
	}
	if pick(5) == 0 {
		m.Next += pick(5) - 2
	}
	return m
}

// anyBytes are such as a crash or another's hand may leave.
func anyBytes(now int, pick func(n int) int) string {
	s := ""
	switch pick(5) {
	case 0:
		return "0123456789"[:pick(11)]
	case 1:
		s = bytesOf(of(1+pick(4), upTo(pick(4))...))
	case 2:
		s = framed("\x80")
	default:
		s = markOf(now+pick(4)-1, now+pick(5))
	}
	if pick(2) == 0 {
		return s[:pick(len(s)+1)]
	}
	return s
}

func (p *pair) save(m manifest.Manifest) (string, api.Errno, api.Errno) {
	got, want := manifest.Save(p.got, m), refSave(p.want, m)
	if want == api.OK {
		p.saved, p.touched = m, false
	}
	return fmt.Sprint("Save of ", m), got, want
}

func (p *pair) raise(epoch int) (string, api.Errno, api.Errno) {
	got, want := manifest.Raise(p.got, epoch), refRaise(p.want, epoch)
	if want == api.OK {
		p.raised = epoch
	}
	return fmt.Sprint("Raise of ", epoch), got, want
}

// call does one of all calls to both disks.
func (p *pair) call(pick func(n int) int) (what string, got, want api.Errno) {
	now := refEpoch(p.want)
	switch pick(12) {
	case 0, 1, 2:
		return p.save(anyManifest(pick))
	case 3, 4, 5, 6:
		return p.raise(now + pick(6) - 2)
	case 7:
		return p.raise([]int{1, 128, 1 << 38, 1<<38 - 1, 1<<38 + 1, 0}[min(pick(40), 5)])
	case 8, 9:
		if p.alone {
			return p.raise(now + 1)
		}
		name, bytes := []string{"temp", "epoch", "manifest", "x"}[pick(4)], anyBytes(now, pick)
		p.touched = p.touched || name == "manifest"
		got, want = p.both(func(d *disk.Disk) api.Errno { return d.Append(name, bytes) })
		return fmt.Sprintf("Append(%q, %.40q)", name, bytes), got, want
	case 10:
		name := []string{"temp", "x"}[pick(2)]
		got, want = p.both(func(d *disk.Disk) api.Errno { return d.Delete(name) })
		return "Delete", got, want
	}
	keep := []int{pick(30), pick(30), pick(30), pick(30)}
	got, want = p.both(func(d *disk.Disk) api.Errno { d.Crash(keep); return api.OK })
	return fmt.Sprintf("Crash(%d)", keep), got, want
}

// check does a call, and asks that both disks are one, that they are read as the reference does, and that what was saved and raised is there.
func (p *pair) check(t testing.TB, pick func(n int) int) {
	t.Helper()
	before := tell(p.got)
	what, got, want := p.call(pick)
	if got != want || tell(p.got) != tell(p.want) {
		t.Fatalf("%s of %s: %d, %s, want %d, %s", what, before, got, tell(p.got), want, tell(p.want))
	}
	m, err := refLoad(p.want)
	checkLoad(t, what, p.got, m, err)
	checkEpoch(t, what, p.got, refEpoch(p.want))
	if !p.touched {
		checkLoad(t, what+", saved", p.got, p.saved, api.OK)
	}
	if epoch := manifest.Epoch(p.got); epoch < p.raised {
		t.Fatalf("%s of %s: Epoch = %d, but %d was raised", what, before, epoch, p.raised)
	}
}

// A1 to A3: long rows of calls, on disks with much room and with little.
func TestLongRowsOfCalls(t *testing.T) {
	for seed := range 150 {
		pick := rand.New(rand.NewPCG(10, uint64(seed))).IntN
		p := newPair(t, 1+pick(10*(1+seed%80)))
		p.alone = seed%4 == 0
		if seed%3 == 0 {
			files := disk.MaxFiles - pick(4)
			p.both(func(d *disk.Disk) api.Errno { crowd(t, d, files); return api.OK })
		}
		for range 200 {
			p.check(t, pick)
		}
	}
}

// FuzzCalls: A1 to A3: rows of calls that bytes tell.
func FuzzCalls(f *testing.F) {
	f.Add([]byte{})
	f.Add([]byte{200, 3, 3, 3, 4, 0, 5, 8, 1, 0, 3, 11, 1, 2, 3})
	f.Fuzz(func(t *testing.T, bytes []byte) {
		pick := func(n int) int {
			if len(bytes) == 0 {
				return 0
			}
			k := int(bytes[0]) % n
			bytes = bytes[1:]
			return k
		}
		p := newPair(t, 1+2*pick(256))
		for steps := 0; len(bytes) > 0 && steps < 200; steps++ {
			p.check(t, pick)
		}
	})
}
