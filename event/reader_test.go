package event

import (
	"testing"

	"bucketline/api"
)

// Behind a part that errs nothing more is taken; a method value goes on with the reader that it was made of.
func TestInOrderEndsAtTheFirstError(t *testing.T) {
	r := reader{left: "\x01s\x01\x80\x00\x03"}
	stream, expect := r.stream, r.expect
	if err := inOrder(stream, expect); err != api.OK || r.batch.Stream != "s" || r.batch.Expect != -1 || r.left != "\x80\x00\x03" {
		t.Fatalf("%+v, %d", r, err)
	}
	calls := 0
	count := func() api.Errno {
		calls++
		return api.ErrShort
	}
	if err := inOrder(r.session, count); err != api.ErrForm || calls != 0 {
		t.Errorf("%d, %d calls", err, calls)
	}
	if err := inOrder(count, count); err != api.ErrShort || calls != 1 {
		t.Errorf("%d, %d calls", err, calls)
	}
	if err := inOrder(); err != api.OK {
		t.Errorf("no parts: %d", err)
	}
}
