package disk_test

import (
	"fmt"
	"math/rand/v2"
	"slices"
	"strings"
	"testing"

	"bucketline/api"
	"bucketline/disk"
	"bucketline/text"
)

// paper is a file as the chapter's words have it.
type paper struct {
	name, bytes string
	synced      int
}

// model follows D1 to D3, one word after another: files in the order of their names, and a room.
type model struct {
	room  int
	files []paper
}

func (m *model) place(name string) int {
	return slices.IndexFunc(m.files, func(p paper) bool { return p.name == name })
}

func (m *model) used() int {
	n := 0
	for _, p := range m.files {
		n += len(p.bytes)
	}
	return n
}

func (m *model) sort() {
	slices.SortFunc(m.files, func(a, b paper) int { return strings.Compare(a.name, b.name) })
}

func (m *model) append(name, s string) api.Errno {
	i := m.place(name)
	if !text.Name(name) {
		return api.ErrArg
	}
	if i < 0 && len(m.files) == 40 {
		return api.ErrLong
	}
	if m.used()+len(s) > m.room {
		return api.ErrFull
	}
	if i < 0 {
		m.files = append(m.files, paper{name: name, bytes: s})
		m.sort()
		return api.OK
	}
	m.files[i].bytes += s
	return api.OK
}

func (m *model) sync(name string) api.Errno {
	i := m.place(name)
	if i < 0 {
		return api.ErrNone
	}
	m.files[i].synced = len(m.files[i].bytes)
	return api.OK
}

func (m *model) rename(from, to string) api.Errno {
	i := m.place(from)
	if i < 0 {
		return api.ErrNone
	}
	if !text.Name(to) {
		return api.ErrArg
	}
	if from == to {
		return api.OK
	}
	m.remove(to)
	m.files[m.place(from)].name = to
	m.sort()
	return api.OK
}

func (m *model) remove(name string) api.Errno {
	i := m.place(name)
	if i < 0 {
		return api.ErrNone
	}
	m.files = slices.Delete(m.files, i, i+1)
	return api.OK
}

func (m *model) crash(keep []int) {
	for i := range m.files {
		f := &m.files[i]
		kept, loose := f.bytes[:f.synced], f.bytes[f.synced:]
		for n := 0; i < len(keep) && n < keep[i] && n < len(loose); n++ {
			kept += loose[n : n+1]
		}
		f.bytes, f.synced = kept, len(kept)
	}
}

func (m *model) clone() *model {
	return &model{m.room, slices.Clone(m.files)}
}

func (m *model) tell() string {
	out := ""
	for _, p := range m.files {
		out += fmt.Sprintf("%s=%s/%d ", p.name, p.bytes, p.synced)
	}
	return out + fmt.Sprint(m.used())
}

// pair is a disk and its model.
type pair struct {
	d *disk.Disk
	m *model
}

func newPair(t testing.TB, room int) pair {
	return pair{made(t, room), &model{room: room}}
}

func (p pair) clone() pair {
	return pair{p.d.Clone(), p.m.clone()}
}

// call is done to a disk and to its model; both errors must be one.
type call struct {
	what string
	do   func(p pair) (got, want api.Errno)
}

func (c call) check(t testing.TB, p pair) {
	t.Helper()
	before := tell(p.d)
	got, want := c.do(p)
	if got != want || tell(p.d) != p.m.tell() {
		t.Fatalf("%s of %s: %d, %s, want %d, %s", c.what, before, got, tell(p.d), want, p.m.tell())
	}
	if got != api.OK && tell(p.d) != before {
		t.Fatalf("%s of %s: %d, but it is %s", c.what, before, got, tell(p.d))
	}
}

func callAppend(name, s string) call {
	return call{fmt.Sprintf("Append(%q, %q)", name, s), func(p pair) (api.Errno, api.Errno) { return p.d.Append(name, s), p.m.append(name, s) }}
}

func callSync(name string) call {
	return call{fmt.Sprintf("Sync(%q)", name), func(p pair) (api.Errno, api.Errno) { return p.d.Sync(name), p.m.sync(name) }}
}

func callRename(from, to string) call {
	return call{fmt.Sprintf("Rename(%q, %q)", from, to), func(p pair) (api.Errno, api.Errno) { return p.d.Rename(from, to), p.m.rename(from, to) }}
}

func callDelete(name string) call {
	return call{fmt.Sprintf("Delete(%q)", name), func(p pair) (api.Errno, api.Errno) { return p.d.Delete(name), p.m.remove(name) }}
}

func callCrash(keep ...int) call {
	return call{fmt.Sprintf("Crash(%d)", keep), func(p pair) (api.Errno, api.Errno) {
		p.d.Crash(keep)
		p.m.crash(keep)
		return api.OK, api.OK
	}}
}

// fewCalls are those of which every short row is tried.
func fewCalls() []call {
	return []call{
		callAppend("a", "x"), callAppend("a", "yz"), callAppend("b", ""), callAppend("b", "1"), callAppend("", "x"), callAppend("c", "12345"),
		callSync("a"), callSync("b"),
		callRename("a", "b"), callRename("b", "a"), callRename("a", "a"), callRename("b", "."), callRename("a", " "),
		callDelete("a"), callDelete("b"),
		callCrash(), callCrash(1), callCrash(-1, 2), callCrash(1, 1, 1),
	}
}

// D1 to D4: every row of four calls, on a disk of 4 bytes; each clone on the way stays as it is.
func TestRowsOfCalls(t *testing.T) {
	calls := fewCalls()
	var grow func(p pair, left int)
	grow = func(p pair, left int) {
		if left == 0 {
			return
		}
		before := p.m.tell()
		for _, c := range calls {
			next := p.clone()
			c.check(t, next)
			grow(next, left-1)
		}
		if tell(p.d) != before {
			t.Fatalf("a clone's calls made %s of %s", tell(p.d), before)
		}
	}
	grow(newPair(t, 4), 4)
}

// anyCall is one of all calls, of a few names, short texts and small numbers; pick answers a number below n.
func anyCall(pick func(n int) int) call {
	names := []string{"a", "b", "c", "é", "seg-1", "", "a b", "\xff"}
	name := func() string { return names[pick(len(names))] }
	switch pick(8) {
	case 0, 1, 2:
		return callAppend(name(), "0123456789"[:pick(11)])
	case 3:
		return callSync(name())
	case 4:
		return callRename(name(), name())
	case 5:
		return callDelete(name())
	case 6:
		return callAppend(fmt.Sprint("f", pick(50)), "")
	}
	keep := make([]int, pick(7))
	for i := range keep {
		keep[i] = pick(14) - 2
	}
	return callCrash(keep...)
}

// D1 to D4: long rows of calls, on some disks and clones of them; what is done to one is seen in no other.
func TestLongRowsOfCalls(t *testing.T) {
	for seed := range 60 {
		pick := rand.New(rand.NewPCG(8, uint64(seed))).IntN
		pairs := []pair{newPair(t, 1+pick(80))}
		for range 400 {
			at := pick(len(pairs))
			if pick(20) == 0 && len(pairs) < 4 {
				pairs = append(pairs, pairs[at].clone())
			}
			anyCall(pick).check(t, pairs[at])
			for i, p := range pairs {
				if tell(p.d) != p.m.tell() {
					t.Fatalf("disk %d is %s, want %s", i, tell(p.d), p.m.tell())
				}
			}
		}
	}
}

// story is what was written to a file, and how many bytes of it a Sync, or a crash, has seen.
type story struct {
	written string
	synced  int
}

// D4: behind any crash what was synced is there, and what is there is a beginning of what was written.
func TestCrashKeepsABeginning(t *testing.T) {
	for seed := range 100 {
		pick := rand.New(rand.NewPCG(9, uint64(seed))).IntN
		d := made(t, 1000)
		stories := map[string]story{}
		for range 60 {
			name := []string{"a", "b", "c"}[pick(3)]
			s := stories[name]
			switch pick(5) {
			case 0, 1:
				piece := "abcdefgh"[:pick(9)]
				if d.Append(name, piece) == api.OK {
					stories[name] = story{s.written + piece, s.synced}
				}
			case 2:
				if d.Sync(name) == api.OK {
					stories[name] = story{s.written, len(s.written)}
				}
			case 3:
				to := []string{"a", "b", "c"}[pick(3)]
				if d.Rename(name, to) == api.OK {
					delete(stories, name)
					stories[to] = s
				}
			case 4:
				d.Crash([]int{pick(12) - 2, pick(12) - 2, pick(12) - 2}[:pick(4)])
				checkStories(t, d, stories)
			}
		}
	}
}

// checkStories holds a disk behind a crash against what was written; from then on what is there is what was written.
func checkStories(t *testing.T, d *disk.Disk, stories map[string]story) {
	t.Helper()
	if len(d.List()) != len(stories) {
		t.Fatalf("%q are left of %d files", d.List(), len(stories))
	}
	for name, s := range stories {
		left, err := d.Read(name)
		if err != api.OK || !strings.HasPrefix(left, s.written[:s.synced]) || !strings.HasPrefix(s.written, left) || d.Synced(name) != len(left) {
			t.Fatalf("%s: %q is left of %q, of which %d were synced: %d", name, left, s.written, s.synced, err)
		}
		stories[name] = story{left, len(left)}
	}
}

// FuzzCalls: D1 to D4: rows of calls that bytes tell.
func FuzzCalls(f *testing.F) {
	f.Add([]byte{})
	f.Add([]byte{9, 0, 0, 3, 3, 0, 0, 0, 1, 7, 1, 5})
	f.Add([]byte{200, 0, 0, 10, 4, 0, 1, 7, 0, 3, 2, 2, 5, 0})
	f.Fuzz(func(t *testing.T, row []byte) {
		pick := func(n int) int {
			if len(row) == 0 {
				return 0
			}
			k := int(row[0]) % n
			row = row[1:]
			return k
		}
		p := newPair(t, 1+pick(100))
		for len(row) > 0 {
			anyCall(pick).check(t, p)
			if pick(8) == 0 {
				p = p.clone()
			}
		}
	})
}
