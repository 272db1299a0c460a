package segment

import (
	"iter"
	"slices"
	"strings"

	"bucketline/api"
	"bucketline/num"
	"bucketline/record"
)

// What payloads begin with, so that none is taken for one of the other sort.
const (
	headMark  = "s"
	entryMark = "e"
)

func headOf(first int) string {
	return headMark + num.Put(first)
}

func firstOf(payload string) (int, bool) {
	s, marked := strings.CutPrefix(payload, headMark)
	first, rest, err := num.Take(s)
	right := marked && err == api.OK && rest == "" && between(first, 1, highest)
	return first, right
}

// bodyOf is for entries that are right.
func bodyOf(l []api.Entry) []string {
	body := make([]string, 0, len(l))
	for _, e := range l {
		body = append(body, entryMark+record.Put(e))
	}
	return body
}

func entryOf(payload string) (api.Entry, bool) {
	s, marked := strings.CutPrefix(payload, entryMark)
	e, rest, err := record.Take(s)
	return e, marked && err == api.OK && rest == ""
}

// entries tells those of the payloads from a first place on, up to the first payload that is none of them or does not go on: what is behind it cannot be trusted.
func entries(body []string, first int) iter.Seq[api.Entry] {
	return func(yield func(api.Entry) bool) {
		pos, epoch := first-1, 0
		for _, payload := range body {
			e, right := entryOf(payload)
			if !right || !record.Follows([]api.Entry{e}, pos, epoch) || !yield(e) {
				return
			}
			pos, epoch = e.Pos, e.Epoch
		}
	}
}

// goesOn tells whether entries go on from the last one of a segment.
func goesOn(s Segment, l []api.Entry) bool {
	if len(s.Entries) == 0 {
		return record.Follows(l, s.First-1, 0)
	}
	last := s.Entries[len(s.Entries)-1]
	return record.Follows(l, last.Pos, last.Epoch)
}

func upTo(l []api.Entry, last int) []api.Entry {
	behind := func(e api.Entry) bool { return e.Pos > last }
	if i := slices.IndexFunc(l, behind); i >= 0 {
		return l[:i]
	}
	return l
}
