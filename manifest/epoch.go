package manifest

import (
	"bucketline/api"
	"bucketline/disk"
	"bucketline/frame"
	"bucketline/num"
)

const (
	highest   = 1 << 38 // epoch: less than num holds, so that none is changed when it is put
	maxFrames = 20      // with more of them Mark is begun anew
)

// marks is what of Mark can be trusted: the last epoch, and in how many frames; is there nothing else?
type marks struct {
	last, frames int
	alone        bool
}

// Raise keeps an epoch, Epoch is the highest one that was kept.
func Raise(d *disk.Disk, epoch int) api.Errno {
	if d == nil || !between(epoch, 1, highest) {
		return api.ErrArg
	}
	is := marksOf(d)
	if epoch < is.last {
		return api.ErrEpoch
	}
	if epoch > is.last {
		if err := is.keep(d, epoch); err != api.OK {
			return err
		}
	}
	// An epoch that is there already may not be synced yet.
	return d.Sync(Mark)
}

func Epoch(d *disk.Disk) int {
	return marksOf(d).last
}

// marksOf goes up to the first frame that is none of Mark's, as what is behind it cannot be trusted.
func marksOf(d *disk.Disk) marks {
	s, _ := bytesOf(d, Mark)
	payloads, whole := frame.Scan(s)
	is := marks{}
	for _, payload := range payloads {
		epoch, right := epochOf(payload)
		if !right || epoch <= is.last {
			return is
		}
		is.last = epoch
		is.frames++
	}
	is.alone = whole == len(s)
	return is
}

// keep puts an epoch behind the others. Behind bytes that are none of them it would not be read, so that Mark is begun anew then, and also where it has become long.
func (is marks) keep(d *disk.Disk, epoch int) api.Errno {
	payload := num.Put(epoch)
	if is.alone && is.frames <= maxFrames {
		return extend(d, Mark, payload)
	}
	return replace(d, Mark, payload)
}

func epochOf(payload string) (int, bool) {
	next, over := numbers(payload)
	epoch := next()
	return epoch, over() && between(epoch, 1, highest)
}
