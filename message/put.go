package message

import (
	"bucketline/api"
	"bucketline/event"
	"bucketline/num"
	"bucketline/record"
	"bucketline/text"
)

// Put are a message's bytes, Take reads them.
func Put(m Message) string {
	var w writer
	w.master(m)
	w.chain(m)
	w.client(m)
	if w.wrong {
		return ""
	}
	return string(w.bytes)
}

// writer asks of each part whether it is right when it puts it: so both go over the parts once, in one order. Of what is none of the messages (nil, a pointer to one, another's type) no assertion holds, and there are no bytes; its Kind is never asked for, as it may panic.
type writer struct {
	bytes []byte
	wrong bool
}

// master puts what is said to the master, and by it.
func (w *writer) master(m Message) {
	if beat, ok := m.(Beat); ok {
		w.begin(KBeat, beat.Node, beat.Epoch, beat.Last)
	}
	if join, ok := m.(Join); ok {
		w.begin(KJoin, join.Node, join.Boot)
	}
	if lease, ok := m.(Lease); ok {
		w.begin(KLease, lease.Epoch, lease.Until)
	}
	if view, ok := m.(View); ok {
		w.begin(KView, view.Epoch)
		putList(w, view.Chain, api.MaxNodes, w.number)
		putList(w, view.Since, api.MaxNodes, w.number)
		putList(w, view.Boot, api.MaxNodes, w.number)
	}
	if where, ok := m.(Where); ok {
		w.begin(KWhere, where.Id)
	}
}

// chain puts what nodes say to each other.
func (w *writer) chain(m Message) {
	if have, ok := m.(Have); ok {
		w.begin(KHave, have.Epoch, have.Node, have.Last)
		putList(w, have.Marks, maxMarks, w.mark)
	}
	if logs, ok := m.(Logs); ok {
		w.begin(KLogs, logs.Epoch, logs.Node, logs.Prev, logs.PrevEpoch, logs.Sync, logs.Commit)
		putList(w, logs.Entries, maxEntries, w.entry)
	}
	if ack, ok := m.(Ack); ok {
		w.begin(KAck, ack.Epoch, ack.Node, ack.Commit)
	}
	if ask, ok := m.(Ask); ok {
		w.begin(KAsk, ask.Epoch, ask.Node, ask.Boot, ask.Id)
	}
	if told, ok := m.(Told); ok {
		w.begin(KTold, told.Epoch, told.Boot, told.Id, told.Commit)
	}
}

// client puts what a client asks for, and what it gets.
func (w *writer) client(m Message) {
	if add, ok := m.(Append); ok {
		w.begin(KAppend, add.Id)
		w.whole(event.PutBatch(add.B))
	}
	if read, ok := m.(Read); ok {
		w.begin(KRead, read.Id)
		w.name(read.Stream)
		w.number(read.From)
	}
	if reply, ok := m.(Reply); ok {
		w.begin(KReply, reply.Id, reply.Err)
		w.numbers(reply.Out.Code, reply.Out.Pos, reply.Out.First, reply.Out.Version)
	}
	if result, ok := m.(Result); ok {
		w.begin(KResult, result.Id, result.Err, result.Version)
		putList(w, result.Events, api.MaxRead, w.event)
	}
}

// begin puts what all messages begin with.
func (w *writer) begin(kind byte, numbers ...int) {
	w.bytes = append(w.bytes, kind)
	w.numbers(numbers...)
}

func (w *writer) numbers(all ...int) {
	for _, n := range all {
		w.number(n)
	}
}

func (w *writer) number(n int) {
	if n < 0 || n > highest {
		w.wrong = true
	}
	w.bytes = append(w.bytes, num.Put(n)...)
}

func (w *writer) mark(m api.Mark) {
	w.numbers(m.Epoch, m.First)
}

func (w *writer) entry(e api.Entry) {
	w.whole(record.Put(e))
}

func (w *writer) event(e api.Event) {
	w.whole(event.Put(e))
}

// name puts none of a text that is no name: it may be long.
func (w *writer) name(s string) {
	if !text.Name(s) {
		w.wrong = true
		return
	}
	w.bytes = append(w.bytes, num.PutText(s)...)
}

// whole takes what another layer put: that has no bytes, if the part is not right.
func (w *writer) whole(part string) {
	if part == "" {
		w.wrong = true
	}
	w.bytes = append(w.bytes, part...)
}

// putList goes over none of a list that is too long: it may be of any length.
func putList[P any](w *writer, parts []P, most int, put func(part P)) {
	if len(parts) > most {
		w.wrong = true
		return
	}
	w.number(len(parts))
	for _, part := range parts {
		put(part)
	}
}
