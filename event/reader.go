package event

import (
	"bucketline/api"
	"bucketline/num"
)

const maxText = 200 // bytes of a text that is taken, be it a name or data

func Take(s string) (api.Event, string, api.Errno) {
	r := reader{left: s}
	if err := inOrder(r.kind, r.data); err != api.OK {
		return api.Event{}, "", err
	}
	if !Right(r.event) {
		return api.Event{}, "", api.ErrForm
	}
	return r.event, r.left, api.OK
}

func TakeBatch(s string) (api.Batch, string, api.Errno) {
	r := reader{left: s}
	if err := inOrder(r.stream, r.expect, r.session, r.seq, r.events); err != api.OK {
		return api.Batch{}, "", err
	}
	if Fits(r.batch) != api.OK {
		return api.Batch{}, "", api.ErrForm
	}
	return r.batch, r.left, api.OK
}

// inOrder takes parts one behind the other, up to the first one that errs: what is behind that one has no meaning.
func inOrder(parts ...func() api.Errno) api.Errno {
	for _, take := range parts {
		if err := take(); err != api.OK {
			return err
		}
	}
	return api.OK
}

// reader has a method for each part, which takes it off the front of what is left and keeps it. None asks whether a part is right: that is told behind the errors of all parts.
type reader struct {
	left  string
	event api.Event // the last one that was taken
	batch api.Batch
}

func (r *reader) kind() (err api.Errno) {
	r.event.Kind, r.left, err = num.TakeText(r.left, maxText)
	return err
}

func (r *reader) data() (err api.Errno) {
	r.event.Data, r.left, err = num.TakeText(r.left, maxText)
	return err
}

func (r *reader) stream() (err api.Errno) {
	r.batch.Stream, r.left, err = num.TakeText(r.left, maxText)
	return err
}

func (r *reader) expect() (err api.Errno) {
	r.batch.Expect, r.left, err = num.TakeInt(r.left)
	return err
}

func (r *reader) session() (err api.Errno) {
	r.batch.Session, r.left, err = num.Take(r.left)
	return err
}

func (r *reader) seq() (err api.Errno) {
	r.batch.Seq, r.left, err = num.Take(r.left)
	return err
}

func (r *reader) events() api.Errno {
	count, rest, err := num.Take(r.left)
	switch {
	case err != api.OK:
		return err
	case count > api.MaxEvents:
		return api.ErrLong
	}
	r.left = rest
	for range count {
		if err := inOrder(r.kind, r.data); err != api.OK {
			return err
		}
		r.batch.Events = append(r.batch.Events, r.event)
	}
	return api.OK
}
