package frame

import (
	"slices"
	"testing"

	"bucketline/api"
)

// Whoever goes over frames may leave at any of them, and may go over them again.
func TestFramesCanBeLeft(t *testing.T) {
	s, err := Row([]string{"a", "bb", "ccc"})
	if err != api.OK {
		t.Fatal(err)
	}
	ends := []int{9, 19, 30}
	row := frames(s + "\x00")
	for most := 1; most <= 3; most++ {
		var got []int
		for payload, end := range row {
			if s[end-len(payload):end] != payload {
				t.Errorf("%q does not end at %d", payload, end)
			}
			got = append(got, end)
			if len(got) == most {
				break
			}
		}
		if !slices.Equal(got, ends[:most]) {
			t.Errorf("%v, want %v", got, ends[:most])
		}
	}
}
