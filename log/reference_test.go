package log_test

import (
	"encoding/binary"
	"fmt"
	"hash/crc32"
	"slices"
	"strings"

	"bucketline/api"
	"bucketline/disk"
	"bucketline/manifest"
	"bucketline/record"
	"bucketline/segment"
)

// framed follows the words of chapter 4, by the library's sum and numbers.
func framed(payload string) string {
	length := binary.BigEndian.AppendUint32(nil, uint32(len(payload)))
	sum := crc32.ChecksumIEEE(append(slices.Clone(length), payload...))
	return string(binary.BigEndian.AppendUint32(length, sum)) + payload
}

// number follows the words of chapter 2; the library's bytes are the same ones.
func number(n int) string {
	return string(binary.AppendUvarint(nil, uint64(n)))
}

// headOf are the bytes of a segment without entries.
func headOf(first int) string {
	return framed("s" + number(first))
}

// rowBytes are the frames of entries.
func rowBytes(l ...api.Entry) string {
	var out strings.Builder
	for _, e := range l {
		out.WriteString(framed("e" + record.Put(e)))
	}
	return out.String()
}

// bytesOf are a segment's bytes.
func bytesOf(first int, l ...api.Entry) string {
	return headOf(first) + rowBytes(l...)
}

// manifestOf are a manifest's bytes.
func manifestOf(next int, segs ...int) string {
	out := number(next) + number(len(segs))
	for _, n := range segs {
		out += number(n)
	}
	return framed(out)
}

func refName(n int) string {
	return fmt.Sprint("seg-", n)
}

// refNumber is the number of a segment's name; 0, if it is none.
func refNumber(name string) int {
	n := 0
	if _, err := fmt.Sscanf(name, "seg-%d", &n); err != nil || refName(n) != name || n < 1 || n > 1<<30 {
		return 0
	}
	return n
}

type refSeg struct {
	n, first int
	l        []api.Entry
}

// ref follows the words of the chapter. What it does to its disk it does one step at a time, so that it can be stopped between them: a log's calls cannot.
type ref struct {
	d     *disk.Disk
	next  int
	segs  []refSeg
	stops []*disk.Disk // the disk behind each step
}

func (r *ref) stepped() {
	r.stops = append(r.stops, r.d.Clone())
}

func (r *ref) put(name, s string) api.Errno {
	defer r.stepped()
	return r.d.Append(name, s)
}

func (r *ref) sync(name string) {
	r.d.Sync(name)
	r.stepped()
}

func (r *ref) drop(name string) {
	r.d.Delete(name)
	r.stepped()
}

// replace is how a file gets other bytes.
func (r *ref) replace(name, s string) api.Errno {
	r.drop("temp")
	if err := r.put("temp", s); err != api.OK {
		r.drop("temp")
		return err
	}
	r.sync("temp")
	r.d.Rename("temp", name)
	r.stepped()
	return api.OK
}

func (r *ref) save(next int, segs []int) api.Errno {
	if next > 1<<30 {
		return api.ErrArg
	}
	return r.replace("manifest", manifestOf(next, segs...))
}

func (r *ref) all() []api.Entry {
	var l []api.Entry
	for _, s := range r.segs {
		l = append(l, s.l...)
	}
	return l
}

func (r *ref) epoch() int {
	if l := r.all(); len(l) > 0 {
		return l[len(l)-1].Epoch
	}
	return 0
}

func (r *ref) numbers() []int {
	var l []int
	for _, s := range r.segs {
		l = append(l, s.n)
	}
	return l
}

// refOpen follows L1. The answer is there beside an error, too: for its stops.
func refOpen(d *disk.Disk) (*ref, api.Errno) {
	r := &ref{d: d}
	m, err := manifest.Load(d)
	if err != api.OK {
		return r, err
	}
	r.next = m.Next
	for _, n := range m.Segs {
		s, err := segment.Load(d, n)
		if err != api.OK || s.First != len(r.all())+1 || len(s.Entries) > 0 && s.Entries[0].Epoch < r.epoch() {
			break
		}
		if s.Torn {
			if err := r.replace(refName(n), bytesOf(s.First, s.Entries...)); err != api.OK {
				return r, err
			}
		}
		r.segs = append(r.segs, refSeg{n, s.First, s.Entries})
	}
	if len(r.segs) < len(m.Segs) {
		if err := r.save(m.Next, r.numbers()); err != api.OK {
			return r, err
		}
	}
	for _, name := range d.List() {
		if n := refNumber(name); name == "temp" || n > 0 && !slices.Contains(r.numbers(), n) {
			r.drop(name)
		}
	}
	return r, api.OK
}

// goesOn follows the words of R2 (chapter 6).
func (r *ref) goesOn(l []api.Entry) bool {
	pos, epoch := len(r.all()), r.epoch()
	for _, e := range l {
		if !record.Right(e) || e.Pos != pos+1 || e.Epoch < epoch {
			return false
		}
		pos, epoch = e.Pos, e.Epoch
	}
	return true
}

// begin follows L3: another segment.
func (r *ref) begin() api.Errno {
	if len(r.segs) == 30 {
		return api.ErrLong
	}
	name, first := refName(r.next), len(r.all())+1
	if err := r.put(name, headOf(first)); err != api.OK {
		return err
	}
	r.sync(name)
	if err := r.save(r.next+1, append(r.numbers(), r.next)); err != api.OK {
		r.drop(name)
		return err
	}
	r.segs = append(r.segs, refSeg{n: r.next, first: first})
	r.next++
	return api.OK
}

// Append follows L3.
func (r *ref) Append(e []api.Entry) api.Errno {
	if !r.goesOn(e) {
		return api.ErrGap
	}
	for len(e) > 0 {
		if len(r.segs) == 0 || len(r.segs[len(r.segs)-1].l) >= 8 {
			if err := r.begin(); err != api.OK {
				return err
			}
		}
		last := &r.segs[len(r.segs)-1]
		n := min(8-len(last.l), len(e))
		if err := r.put(refName(last.n), rowBytes(e[:n]...)); err != api.OK {
			return err
		}
		r.sync(refName(last.n))
		last.l = append(slices.Clone(last.l), e[:n]...)
		e = e[n:]
	}
	return api.OK
}

// Truncate follows L4.
func (r *ref) Truncate(last int) api.Errno {
	if last < 0 {
		return api.ErrArg
	}
	if last >= len(r.all()) {
		return api.OK
	}
	kept := 0
	for kept < len(r.segs) && r.segs[kept].first <= last {
		kept++
	}
	if kept < len(r.segs) {
		if err := r.save(r.next, r.numbers()[:kept]); err != api.OK {
			return err
		}
		for _, s := range r.segs[kept:] {
			r.drop(refName(s.n))
		}
		r.segs = r.segs[:kept]
	}
	if kept == 0 {
		return api.OK
	}
	end := &r.segs[kept-1]
	left := end.l[:last-end.first+1]
	if len(left) == len(end.l) {
		return api.OK
	}
	if err := r.replace(refName(end.n), bytesOf(end.first, left...)); err != api.OK {
		return err
	}
	end.l = left
	return api.OK
}
