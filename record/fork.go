package record

import (
	"slices"

	"bucketline/api"
)

// Follows tells whether entries go on from a place and an epoch.
func Follows(l []api.Entry, pos, epoch int) bool {
	return !found(l, strayFrom(pos, epoch))
}

func Marks(l []api.Entry) []api.Mark {
	var marks []api.Mark
	for i, e := range l {
		if i == 0 || e.Epoch != l[i-1].Epoch {
			marks = append(marks, api.Mark{Epoch: e.Epoch, First: e.Pos})
		}
	}
	return marks
}

// Fork is the last place up to which two logs are one.
func Fork(a []api.Mark, lastA int, b []api.Mark, lastB int) int {
	last := max(min(lastA, lastB), 0)
	parted := partedBy(a, b)
	for _, place := range turns(a, b) {
		if place > last {
			break
		}
		if parted(place) {
			return place - 1
		}
	}
	return last
}

// strayFrom goes along with entries that are asked of in their order: each is held against the one ahead, the first one against pos and epoch.
func strayFrom(pos, epoch int) func(e api.Entry) bool {
	return func(e api.Entry) bool {
		stray := !Right(e) || e.Pos != pos+1 || e.Epoch < epoch
		pos, epoch = e.Pos, e.Epoch
		return stray
	}
}

// partedBy is asked of places that do not fall.
func partedBy(a, b []api.Mark) func(place int) bool {
	epochA, epochB := epochsBy(a), epochsBy(b)
	return func(place int) bool {
		x, y := epochA(place), epochB(place)
		return x != y || x == 0
	}
}

// epochsBy is asked of places that do not fall, so that no mark is looked at again.
func epochsBy(marks []api.Mark) func(place int) int {
	coming := inForce(marks)
	epoch := 0
	return func(place int) int {
		for len(coming) > 0 && coming[0].First <= place {
			epoch = coming[0].Epoch
			coming = coming[1:]
		}
		return epoch
	}
}

// inForce leaves out the marks that no place goes by, as one behind them begins no later: the Firsts of the others rise, whatever is handed in.
func inForce(marks []api.Mark) []api.Mark {
	var kept []api.Mark
	for _, m := range marks {
		for len(kept) > 0 && kept[len(kept)-1].First >= m.First {
			kept = kept[:len(kept)-1]
		}
		kept = append(kept, m)
	}
	return kept
}

// turns are the places at which an epoch may be another one than ahead, in order: between them nothing can part, however far the logs go.
func turns(a, b []api.Mark) []int {
	places := []int{1}
	for _, marks := range [][]api.Mark{a, b} {
		for _, m := range marks {
			if m.First > 1 {
				places = append(places, m.First)
			}
		}
	}
	slices.Sort(places)
	return places
}
