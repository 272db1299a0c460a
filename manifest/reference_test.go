package manifest_test

import (
	"encoding/binary"
	"hash/crc32"
	"slices"

	"bucketline/api"
	"bucketline/disk"
	"bucketline/manifest"
)

// framed follows the words of chapter 4, by the library's sum and numbers.
func framed(payload string) string {
	length := binary.BigEndian.AppendUint32(nil, uint32(len(payload)))
	sum := crc32.ChecksumIEEE(append(slices.Clone(length), payload...))
	return string(binary.BigEndian.AppendUint32(length, sum)) + payload
}

// number follows the words of chapter 2; the library's bytes are the same ones.
func number(n int) string {
	return string(binary.AppendUvarint(nil, uint64(n)))
}

// row are the bytes of numbers.
func row(l ...int) string {
	var out string
	for _, n := range l {
		out += number(n)
	}
	return out
}

// bytesOf are a manifest's bytes, whether it is right or not.
func bytesOf(m manifest.Manifest) string {
	return framed(row(append([]int{m.Next, len(m.Segs)}, m.Segs...)...))
}

// markOf are the frames of epochs.
func markOf(l ...int) string {
	var out string
	for _, n := range l {
		out += framed(number(n))
	}
	return out
}

// refRight follows the words: each Seg by itself, then their order.
func refRight(m manifest.Manifest) bool {
	for _, n := range m.Segs {
		if n < 1 || n >= m.Next {
			return false
		}
	}
	inOrder := slices.IsSorted(m.Segs) && len(slices.Compact(slices.Clone(m.Segs))) == len(m.Segs)
	return m.Next >= 1 && m.Next <= 1<<30 && len(m.Segs) <= 30 && inOrder
}

// refRead seeks the one manifest that a payload may be, and asks whether the bytes are that one's.
func refRead(s string) (manifest.Manifest, api.Errno) {
	var l []int
	for i := 8; i < len(s); {
		n, size := binary.Uvarint([]byte(s[i:]))
		if size <= 0 {
			break
		}
		l = append(l, int(n))
		i += size
	}
	if len(l) < 2 {
		return manifest.Manifest{}, api.ErrForm
	}
	m := manifest.Manifest{Next: l[0], Segs: l[2:]}
	if !refRight(m) || bytesOf(m) != s {
		return manifest.Manifest{}, api.ErrForm
	}
	return m, api.OK
}

func refLoad(d *disk.Disk) (manifest.Manifest, api.Errno) {
	if !slices.Contains(d.List(), "manifest") {
		return manifest.Manifest{Next: 1}, api.OK
	}
	s, _ := d.Read("manifest")
	return refRead(s)
}

// refReplace follows the words that Save and Raise have alike.
func refReplace(d *disk.Disk, name, s string) api.Errno {
	d.Delete("temp")
	if err := d.Append("temp", s); err != api.OK {
		d.Delete("temp")
		return err
	}
	d.Sync("temp")
	d.Rename("temp", name)
	return api.OK
}

func refSave(d *disk.Disk, m manifest.Manifest) api.Errno {
	if !refRight(m) {
		return api.ErrArg
	}
	return refReplace(d, "manifest", bytesOf(m))
}

// refMark tells the epochs of Mark's frames, and what bytes are behind these: it takes off one frame after another whose bytes are those of a number that is above.
func refMark(s string) ([]int, string) {
	var l []int
	last := 0
	for len(s) > 8 {
		n, size := binary.Uvarint([]byte(s[8:min(len(s), 18)]))
		if size <= 0 || n > 1<<38 || int(n) <= last {
			break
		}
		want := framed(number(int(n)))
		if len(s) < len(want) || s[:len(want)] != want {
			break
		}
		last = int(n)
		l = append(l, last)
		s = s[len(want):]
	}
	return l, s
}

func refEpoch(d *disk.Disk) int {
	s, _ := d.Read("epoch")
	if l, _ := refMark(s); len(l) > 0 {
		return slices.Max(l)
	}
	return 0
}

func refRaise(d *disk.Disk, epoch int) api.Errno {
	if epoch < 1 || epoch > 1<<38 {
		return api.ErrArg
	}
	if epoch < refEpoch(d) {
		return api.ErrEpoch
	}
	if epoch == refEpoch(d) {
		return d.Sync("epoch")
	}
	s, _ := d.Read("epoch")
	l, rest := refMark(s)
	if rest == "" && len(l) <= 20 {
		if err := d.Append("epoch", markOf(epoch)); err != api.OK {
			return err
		}
	} else if err := refReplace(d, "epoch", markOf(epoch)); err != api.OK {
		return err
	}
	return d.Sync("epoch")
}
