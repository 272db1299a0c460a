package disk

import "slices"

// file is the bytes of one file, of which the first ones are synced. Its bytes are its own: two files share none, so that with may grow them where they are.
type file struct {
	data   []byte
	synced int
}

func (f file) with(s string) file {
	f.data = append(f.data, s...)
	return f
}

func (f file) allSynced() file {
	f.synced = len(f.data)
	return f
}

// torn is what a crash leaves that spares so many of the bytes behind the synced ones. It asks how many there are ahead of adding, as a sum with any number may go round.
func (f file) torn(spared int) file {
	loose := len(f.data) - f.synced
	f.data = f.data[:f.synced+min(max(spared, 0), loose)]
	return f.allSynced()
}

func (f file) copied() file {
	f.data = slices.Clone(f.data)
	return f
}
