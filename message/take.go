package message

import (
	"bucketline/api"
	"bucketline/event"
	"bucketline/num"
	"bucketline/record"
)

const maxStream = 200 // bytes of a Stream that is taken, be it a name or not

func Take(s string) (Message, api.Errno) {
	if s == "" {
		return nil, api.ErrShort
	}
	r := reader{left: s[1:]}
	m := r.message(s[0])
	switch {
	case m == nil:
		return nil, api.ErrForm
	case r.err != api.OK:
		return nil, r.err
	case !Right(m) || r.left != "":
		return nil, api.ErrForm
	}
	return m, api.OK
}

// reader takes one part behind the other off the front of what is left, up to the first one that errs: those behind that one are nothing.
type reader struct {
	left string
	err  api.Errno
}

// message takes the parts in the order in which they are written here; nil, if there is no such kind.
func (r *reader) message(kind byte) Message {
	switch kind {
	case KBeat:
		return Beat{Node: r.number(), Epoch: r.number(), Last: r.number()}
	case KJoin:
		return Join{Node: r.number(), Boot: r.number()}
	case KLease:
		return Lease{Epoch: r.number(), Until: r.number()}
	case KView:
		return View{Epoch: r.number(), Chain: r.nodes(), Since: r.nodes(), Boot: r.nodes()}
	case KWhere:
		return Where{Id: r.number()}
	case KHave:
		return Have{Epoch: r.number(), Node: r.number(), Last: r.number(), Marks: takeList(r, maxMarks, r.mark)}
	case KLogs:
		return Logs{
			Epoch: r.number(), Node: r.number(), Prev: r.number(), PrevEpoch: r.number(),
			Sync: r.number(), Commit: r.number(),
			Entries: takeList(r, maxEntries, r.entry),
		}
	case KAck:
		return Ack{Epoch: r.number(), Node: r.number(), Commit: r.number()}
	case KAsk:
		return Ask{Epoch: r.number(), Node: r.number(), Boot: r.number(), Id: r.number()}
	case KTold:
		return Told{Epoch: r.number(), Boot: r.number(), Id: r.number(), Commit: r.number()}
	case KAppend:
		return Append{Id: r.number(), B: take(r, event.TakeBatch)}
	case KRead:
		return Read{Id: r.number(), Stream: take(r, takeStream), From: r.number()}
	case KReply:
		return Reply{Id: r.number(), Err: r.number(), Out: r.outcome()}
	case KResult:
		return Result{Id: r.number(), Err: r.number(), Version: r.number(), Events: takeList(r, api.MaxRead, r.event)}
	}
	return nil
}

func (r *reader) number() int { return take(r, num.Take) }

// nodes takes a number for each node of a chain.
func (r *reader) nodes() []int { return takeList(r, api.MaxNodes, r.number) }

func (r *reader) mark() api.Mark {
	return api.Mark{Epoch: r.number(), First: r.number()}
}

func (r *reader) entry() api.Entry { return take(r, record.Take) }

func (r *reader) event() api.Event { return take(r, event.Take) }

func (r *reader) outcome() api.Outcome {
	return api.Outcome{Code: r.number(), Pos: r.number(), First: r.number(), Version: r.number()}
}

func takeStream(s string) (string, string, api.Errno) {
	return num.TakeText(s, maxStream)
}

// take hands what is left to a layer ahead; the first error stays.
func take[P any](r *reader, from func(s string) (P, string, api.Errno)) P {
	var part P
	if r.err == api.OK {
		part, r.left, r.err = from(r.left)
	}
	return part
}

func takeList[P any](r *reader, most int, one func() P) []P {
	count := r.number()
	if count > most {
		r.err = api.ErrLong
		return nil
	}
	var parts []P
	for range count {
		parts = append(parts, one())
	}
	return parts
}
