package manifest_test

import (
	"fmt"
	"testing"

	"bucketline/api"
	"bucketline/disk"
	"bucketline/manifest"
	"bucketline/segment"
)

// A3: behind a Save a crash takes nothing, with whatever is kept of the other files.
func TestCrashBehindSave(t *testing.T) {
	for _, m := range rightOnes() {
		for keep := -1; keep < 12; keep++ {
			d := made(t, plenty)
			manifest.Save(d, of(9, 1))
			store(t, d, "a", "ahead of it")
			if err := manifest.Save(d, m); err != api.OK {
				t.Fatal(err)
			}
			store(t, d, segment.Temp, bytesOf(of(5, 3)))
			d.Crash([]int{keep, keep, keep})
			checkLoad(t, "a crash", d, m, api.OK)
			d.Crash(nil)
			checkLoad(t, "another crash", d, m, api.OK)
			checkDisk(t, "Save behind a crash", d, tellWith(d, "manifest", bytesOf(of(5, 3))), manifest.Save(d, of(5, 3)), api.OK)
		}
	}
}

// tellWith is what a disk must be with the bytes of a file in place of what it has, all synced, and without Temp.
func tellWith(d *disk.Disk, name, s string) string {
	other := d.Clone()
	other.Delete(segment.Temp)
	other.Delete(name)
	other.Append(name, s)
	other.Sync(name)
	return tell(other)
}

// A3: a crash in each step of the words of Save: Load tells what was saved ahead, and Save does the rest.
func TestCrashWithinSave(t *testing.T) {
	next := bytesOf(of(300, 1, 2, 299))
	for _, old := range []string{"none", bytesOf(of(1)), bytesOf(of(9, 1, 8))} {
		for keep := range len(next) + 1 {
			for _, isSynced := range []bool{false, true} {
				d, was := made(t, plenty), of(1)
				if old != "none" {
					synced(t, d, "manifest", old)
					was, _ = refRead(old)
				}
				store(t, d, segment.Temp, next)
				if isSynced {
					d.Sync(segment.Temp)
				}
				d.Crash([]int{keep, keep})
				checkLoad(t, "a crash", d, was, api.OK)
				checkDisk(t, "Save behind a crash", d, whole("manifest", next), manifest.Save(d, of(300, 1, 2, 299)), api.OK)
			}
		}
	}
}

// A3: a crash within a Raise that puts a frame behind others, with whatever is kept: Epoch is the old or the new one, and Raise goes on from it.
func TestCrashWithinRaise(t *testing.T) {
	for _, l := range [][]int{nil, {5}, {1, 5}, {1, 2, 3, 4, 5}, upTo(20)} {
		for _, epoch := range []int{21, 300, 1 << 38} {
			s, more := markOf(l...), markOf(epoch)
			for keep := -1; keep <= len(more)+1; keep++ {
				d := made(t, plenty)
				synced(t, d, "epoch", s)
				store(t, d, "a", "ahead of it")
				store(t, d, "epoch", more)
				store(t, d, segment.Temp, "behind it")
				d.Crash([]int{2, keep, 3})
				now := lastOf(l)
				if keep >= len(more) {
					now = epoch
				}
				what := fmt.Sprintf("%d of %d bytes are kept", keep, len(more))
				checkEpoch(t, what, d, now)
				goOn(t, what, d, now)
			}
		}
	}
}

// A3: a crash within a Raise that begins Mark anew: Epoch is the old one till Temp has its place.
func TestCrashWithinRaiseAnew(t *testing.T) {
	more := markOf(300)
	for _, old := range []string{markOf(upTo(21)...), markOf(1, 21) + "x", markOf(21) + framed("x\x80"), markOf(21, 21)} {
		for keep := range len(more) + 1 {
			for _, isSynced := range []bool{false, true} {
				d := holding(t, "epoch", old)
				store(t, d, segment.Temp, more)
				if isSynced {
					d.Sync(segment.Temp)
				}
				d.Crash([]int{keep, keep})
				checkEpoch(t, "a crash", d, 21)
				goOn(t, "a crash", d, 21)
			}
		}
	}
}

// goOn raises the epoch of a disk behind a crash: what is OK stays, crash or not.
func goOn(t *testing.T, what string, d *disk.Disk, now int) {
	t.Helper()
	if now > 1 {
		if err := manifest.Raise(d, now-1); err != api.ErrEpoch {
			t.Errorf("%s: Raise of %d, which is below: %d", what, now-1, err)
		}
	}
	for epoch := max(now, 1); epoch < min(now+30, 1<<38); epoch++ {
		if err := manifest.Raise(d, epoch); err != api.OK {
			t.Errorf("%s: Raise of %d: %d", what, epoch, err)
		}
		d.Crash(nil)
		checkEpoch(t, what, d, epoch)
	}
}

// A2, A3: an epoch that is there, but not synced, might go in a crash; once Raise said OK of it it does not.
func TestRaiseOfWhatIsNotSynced(t *testing.T) {
	for _, tail := range []string{"", "x", markOf(1)} {
		s := markOf(1, 2, 3) + tail
		for ahead := range len(s) + 1 {
			d := made(t, plenty)
			synced(t, d, "epoch", s[:ahead])
			store(t, d, "epoch", s[ahead:])
			checkDisk(t, "Raise of what is there", d, whole("epoch", s), manifest.Raise(d, 3), api.OK)
			d.Crash(nil)
			checkEpoch(t, "a crash", d, 3)
		}
	}
}
