package manifest

import (
	"bucketline/api"
	"bucketline/num"
)

// numbers answers a call that reads the next number of a payload, and one that tells whether all of it was read and nothing was wrong. Both keep what is left, so that a reader need not ask behind each number: one that is wrong or missing is 0.
func numbers(payload string) (next func() int, over func() bool) {
	left, right := payload, true
	next = func() int {
		n, rest, err := num.Take(left)
		left, right = rest, right && err == api.OK
		return n
	}
	over = func() bool {
		return right && left == ""
	}
	return next, over
}
