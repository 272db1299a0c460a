package timer

// place is where the first timer stands that is sought; behind all, if there is none.
func place(l []Timer, sought func(x Timer) bool) int {
	for i, x := range l {
		if sought(x) {
			return i
		}
	}
	return len(l)
}

func named(name string) func(x Timer) bool {
	return func(x Timer) bool { return x.Name == name }
}

func later(now int) func(x Timer) bool {
	return func(x Timer) bool { return x.At > now }
}

// behind seeks what comes after one: of those of one time the names decide, by their bytes.
func behind(one Timer) func(x Timer) bool {
	return func(x Timer) bool {
		return x.At > one.At || x.At == one.At && x.Name > one.Name
	}
}
