package segment_test

import (
	"encoding/binary"
	"fmt"
	"hash/crc32"
	"slices"
	"strings"

	"bucketline/api"
	"bucketline/disk"
	"bucketline/frame"
	"bucketline/num"
	"bucketline/record"
	"bucketline/segment"
)

// framed follows the words of chapter 4, by the library's sum and numbers.
func framed(payload string) string {
	length := binary.BigEndian.AppendUint32(nil, uint32(len(payload)))
	sum := crc32.ChecksumIEEE(append(slices.Clone(length), payload...))
	return string(binary.BigEndian.AppendUint32(length, sum)) + payload
}

// number follows the words of chapter 2; the library's bytes are the same ones.
func number(n int) string {
	return string(binary.AppendUvarint(nil, uint64(n)))
}

func textOf(s string) string {
	return number(len(s)) + s
}

// entryBytes follows the words of chapters 5 and 6, whether the entry is right or not.
func entryBytes(e api.Entry) string {
	out := number(e.Pos) + number(e.Epoch) + textOf(e.B.Stream) + string(binary.AppendVarint(nil, int64(e.B.Expect)))
	out += number(e.B.Session) + number(e.B.Seq) + number(len(e.B.Events))
	for _, x := range e.B.Events {
		out += textOf(x.Kind) + textOf(x.Data)
	}
	return out
}

// rowBytes are the frames of entries.
func rowBytes(l ...api.Entry) string {
	var out strings.Builder
	for _, e := range l {
		out.WriteString(framed("e" + entryBytes(e)))
	}
	return out.String()
}

// bytesOf are a segment's bytes.
func bytesOf(first int, l ...api.Entry) string {
	return framed("s"+number(first)) + rowBytes(l...)
}

// refName is the name of a number, be it a segment's or not.
func refName(n int) string {
	return fmt.Sprint("seg-", n)
}

// refEntry is the entry of a payload; nil, if that is none.
func refEntry(payload string) *api.Entry {
	if payload[0] != 'e' {
		return nil
	}
	e, rest, err := record.Take(payload[1:])
	if err != api.OK || rest != "" || !record.Right(e) {
		return nil
	}
	return &e
}

// refRead follows S2, for the bytes of a file.
func refRead(s string) (segment.Segment, api.Errno) {
	payloads, _ := frame.Scan(s)
	if len(payloads) == 0 || payloads[0][0] != 's' {
		return segment.Segment{}, api.ErrForm
	}
	first, rest, err := num.Take(payloads[0][1:])
	if err != api.OK || rest != "" || first < 1 || first > 1<<38 {
		return segment.Segment{}, api.ErrForm
	}
	out := segment.Segment{First: first}
	for _, payload := range payloads[1:] {
		e := refEntry(payload)
		if e == nil || !record.Follows(append(slices.Clone(out.Entries), *e), first-1, 0) {
			break
		}
		out.Entries = append(out.Entries, *e)
	}
	out.Torn = s != bytesOf(first, out.Entries...)
	return out, api.OK
}

func refLoad(d *disk.Disk, n int) (segment.Segment, api.Errno) {
	if n < 1 || n > 1<<30 || !slices.Contains(d.List(), refName(n)) {
		return segment.Segment{}, api.ErrNone
	}
	s, _ := d.Read(refName(n))
	return refRead(s)
}

// refCreate follows S1.
func refCreate(d *disk.Disk, n, first int) api.Errno {
	if n < 1 || n > 1<<30 || first < 1 || first > 1<<38 {
		return api.ErrArg
	}
	if slices.Contains(d.List(), refName(n)) {
		return api.ErrThere
	}
	if err := d.Append(refName(n), bytesOf(first)); err != api.OK {
		d.Delete(refName(n))
		return err
	}
	d.Sync(refName(n))
	return api.OK
}

// refAdd follows S3.
func refAdd(d *disk.Disk, n int, l []api.Entry) api.Errno {
	s, err := refLoad(d, n)
	if err != api.OK {
		return err
	}
	if s.Torn {
		return api.ErrForm
	}
	if !record.Follows(append(slices.Clone(s.Entries), l...), s.First-1, 0) {
		return api.ErrGap
	}
	if len(l) == 0 {
		return api.OK
	}
	if err := d.Append(refName(n), rowBytes(l...)); err != api.OK {
		return err
	}
	d.Sync(refName(n))
	return api.OK
}

// refCut follows S3.
func refCut(d *disk.Disk, n, last int) api.Errno {
	s, err := refLoad(d, n)
	if err != api.OK {
		return err
	}
	want := framed("s" + number(s.First))
	for _, e := range s.Entries {
		if e.Pos <= last {
			want += rowBytes(e)
		}
	}
	if is, _ := d.Read(refName(n)); is == want {
		return api.OK
	}
	d.Delete("temp")
	if err := d.Append("temp", want); err != api.OK {
		d.Delete("temp")
		return err
	}
	d.Sync("temp")
	d.Rename("temp", refName(n))
	return api.OK
}
