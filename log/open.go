package log

import (
	"slices"

	"bucketline/api"
	"bucketline/disk"
	"bucketline/manifest"
	"bucketline/record"
	"bucketline/segment"
)

func Open(d *disk.Disk) (*Log, api.Errno) {
	if d == nil {
		return nil, api.ErrArg
	}
	m, err := manifest.Load(d)
	if err != api.OK {
		return nil, err
	}
	l := &Log{d: d, next: m.Next}
	if err := l.read(m.Segs); err != api.OK {
		return nil, err
	}
	if len(l.segs) < len(m.Segs) {
		if err := l.name(l.segs, l.next); err != api.OK {
			return nil, err
		}
	}
	l.sweep()
	return l, api.OK
}

// read takes the segments in, up to the first one that does not go on: what is behind it has lost what it goes on from.
func (l *Log) read(numbers []int) api.Errno {
	for _, n := range numbers {
		s, err := segment.Load(l.d, n)
		if err != api.OK || !l.goesOn(s) {
			return api.OK
		}
		l.segs = append(l.segs, part{number: n, first: s.First})
		l.entries = append(l.entries, s.Entries...)
		if !s.Torn {
			continue
		}
		if err := segment.Cut(l.d, n, l.Last()); err != api.OK {
			return err
		}
	}
	return api.OK
}

func (l *Log) goesOn(s segment.Segment) bool {
	return s.First == l.Last()+1 && record.Follows(s.Entries, l.Last(), l.Epoch())
}

// sweep deletes what a crash left of segments that have no name yet, or none any more.
func (l *Log) sweep() {
	named := l.Segs()
	for _, name := range l.d.List() {
		n := segment.Number(name)
		if name == segment.Temp || n > 0 && !slices.Contains(named, n) {
			l.d.Delete(name)
		}
	}
}
