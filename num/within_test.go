package num

import (
	"math"
	"testing"
)

type grade uint8

// Numbers of all kinds are held within bounds, up to the ends of their kind.
func TestWithin(t *testing.T) {
	for n, want := range map[int]int{math.MinInt: -3, -4: -3, -3: -3, 0: 0, 5: 5, 6: 5, math.MaxInt: 5} {
		if got := within(n, -3, 5); got != want {
			t.Errorf("within(%d, -3, 5) = %d, want %d", n, got, want)
		}
	}
	if got := within[int8](-128, -127, 127); got != -127 {
		t.Error(got)
	}
	if got := within[uint32](math.MaxUint32, 0, 9); got != 9 {
		t.Error(got)
	}
	if got := within[uint64](math.MaxUint64, 1, math.MaxUint64); got != math.MaxUint64 {
		t.Error(got)
	}
	if got := within(grade(200), 1, 100); got != 100 {
		t.Error(got)
	}
}
