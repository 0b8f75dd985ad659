package tree

import (
	"bytes"
	"fmt"
	"math/rand"
	"slices"
	"strings"
	"testing"

	"creel/api"
	"creel/block"
	"creel/inode"
	"creel/mode"
	"creel/wal"
)

// picker makes what is handed in, as chance has it.
type picker struct {
	*rand.Rand
	names []string
}

// narrow are a few names; of wide ones few fill a directory.
func narrow() []string { return []string{"a", "b", "c", "d", "-"} }

func wide() []string {
	var l []string
	for i := range 30 {
		l = append(l, long(i))
	}
	return l
}

// name is mostly one of these.
func (r picker) name() string {
	if bad := []string{"", "A", "..", "a/b"}; r.Intn(12) == 0 {
		return bad[r.Intn(len(bad))]
	}
	return r.names[r.Intn(len(r.names))]
}

// there is a path that is there.
func (r picker) there(m *model) []string {
	l := m.paths()
	return l[r.Intn(len(l))]
}

// path is one that is there, or the root's, maybe with names more, or any.
func (r picker) path(m *model) []string {
	var p []string
	if r.Intn(2) == 0 {
		p = r.there(m)
	}
	switch r.Intn(10) {
	case 0:
		p = nil
		for range r.Intn(10) {
			p = append(p, r.name())
		}
	case 1, 2, 3, 4, 5, 6:
		p = append(p, r.name())
	case 7:
		p = append(p, r.name(), r.name())
	}
	return p
}

// data is as many bytes as matter, or where a link may lead.
func (r picker) data(m *model, kind int) []byte {
	if kind == mode.Link && r.Intn(10) > 0 {
		leads := []string{"/.", ".", "..", "../..", "a", "b/c", "../a", "./../b", "/a/b", "//", "", "x/", strings.Repeat("./", 80) + "a"}
		if i := r.Intn(2 * len(leads)); i < len(leads) {
			return []byte(leads[i])
		}
		return []byte(text(r.path(m)))
	}
	sizes := []int{0, 0, 1, 63, 64, 65, 300, 511, 512, 513, 513}
	if kind == mode.Dir && r.Intn(10) > 0 {
		sizes = sizes[:1]
	}
	b := make([]byte, sizes[r.Intn(len(sizes))])
	r.Read(b)
	return b
}

// stat is one of that kind, mostly a right one.
func (r picker) stat(kind int) mode.Stat {
	modes, whose := []int{0, 0o644, 0o755, 4095, 4096, -1}, []int{0, 1, 65535, 65536}
	if r.Intn(8) > 0 {
		modes, whose = modes[:4], whose[:3]
	}
	return mode.Stat{Kind: kind, Mode: modes[r.Intn(len(modes))], Owner: whose[r.Intn(len(whose))], Group: whose[r.Intn(len(whose))]}
}

// kind is mostly one that may be in a tree.
func (r picker) kind() int {
	if r.Intn(20) == 0 {
		return r.Intn(8) - 1
	}
	return [...]int{mode.Dir, mode.Dir, mode.Dir, mode.File, mode.File, mode.Link}[r.Intn(6)]
}

// kindAt is that of what is at a path, or any.
func (r picker) kindAt(m *model, p []string) int {
	if m.goes(p) == api.OK && r.Intn(6) > 0 {
		return m.node(p).Stat.Kind
	}
	return r.kind()
}

// step does what chance has, and answers what, and its error.
func (b *bench) step(t *testing.T, r picker) (string, api.Errno) {
	t.Helper()
	p, k := r.path(b.now), r.Intn(20)
	if k >= 8 && r.Intn(2) == 0 {
		p = r.there(b.now)
	}
	switch {
	case k < 8:
		kind := r.kind()
		return "make", b.make(t, inode.Node{Stat: r.stat(kind), Data: r.data(b.now, kind)}, p...)
	case k < 10:
		return "put", b.put(t, r.data(b.now, r.kindAt(b.now, p)), p...)
	case k < 11:
		return "set", b.set(t, r.stat(r.kindAt(b.now, p)), p...)
	case k < 13:
		return "remove", b.remove(t, p...)
	case k < 17:
		return "rename", b.rename(t, p, r.path(b.now))
	case k < 19:
		told(t, "by chance", b.c, b.now, p)
		return "told", api.OK
	case r.Intn(8) == 0:
		b.begin()
		return "begin", api.OK
	}
	return "commit", b.commit(t)
}

// crowd is so much in the root that it has no room, and a directory that has.
func crowd(names []string) []plant {
	var l []plant
	for i, name := range names[:15] {
		l = append(l, plant{name, []inode.Node{file(""), dir()}[i/14]})
	}
	for _, name := range names[20:25] {
		l = append(l, plant{names[14] + "/" + name, file("")})
	}
	return l
}

// P8.1 to P8.5, P2: whatever is done in whatever order has the answers that the
// model tells, twice the same; each error that a call has is among them.
func TestChance(t *testing.T) {
	met := map[string]int{}
	run := func(seed int64) []byte {
		r := picker{rand.New(rand.NewSource(seed)), narrow()}
		b := planted(t, 60, 30, 200)
		switch seed % 3 {
		case 1:
			b = planted(t, 24, 8, 16)
		case 2:
			r.names = wide()
			b = planted(t, 100, 30, 200)
			b.plant(t, crowd(r.names)...)
		}
		for range 160 {
			what, e := b.step(t, r)
			met[fmt.Sprint(what, " ", int(e))]++
		}
		return b.d.Laid()
	}
	for seed := range int64(24) {
		laid := run(seed)
		if seed < 3 && !bytes.Equal(laid, run(seed)) {
			t.Fatalf("seed %d: not the same twice", seed)
		}
	}
	for what, l := range map[string][]api.Errno{
		"make":   {api.OK, api.ErrPath, api.ErrType, api.ErrMode, api.ErrArg, api.ErrLong, api.ErrNone, api.ErrTwice, api.ErrFull},
		"put":    {api.OK, api.ErrPath, api.ErrNone, api.ErrType, api.ErrLong},
		"set":    {api.OK, api.ErrPath, api.ErrNone, api.ErrType, api.ErrMode, api.ErrArg},
		"remove": {api.OK, api.ErrPath, api.ErrNone, api.ErrType, api.ErrBusy},
		"rename": {api.OK, api.ErrPath, api.ErrNone, api.ErrType, api.ErrTwice, api.ErrFull},
		"commit": {api.OK, api.ErrFull},
	} {
		for _, e := range l {
			if met[fmt.Sprint(what, " ", int(e))] == 0 {
				t.Errorf("chance has never met %s %d", what, e)
			}
		}
	}
}

// P8.4, P8.5: the power goes at each write and flush of a commit, and a crash
// keeps nothing, all, or each one of what waits: opened again the tree is as
// ahead of the change, or as behind it; that, if it was answered.
func TestCrashes(t *testing.T) {
	b := planted(t, 60, 10, 40)
	b.plant(t, plant{"a", dir()}, plant{"a/b", dir()}, plant{"a/b/f", file("two")}, plant{"f", file("")}, plant{"full", file(strings.Repeat("x", 100))})
	f := *b
	ahead, done := b.m, b.l.Done()
	change := func(b *bench) {
		errs(t, "Rename", b.rename(t, at("a/b"), at("b")), api.OK)
		errs(t, "Remove", b.remove(t, "full"), api.OK)
		errs(t, "Put", b.put(t, []byte(strings.Repeat("y", 70)), "f"), api.OK)
		errs(t, "Make", b.make(t, link("f"), "b", "new"), api.OK)
	}
	change(b)
	for n := 0; ; n++ {
		d := b.d.Copy()
		f.f = reopened(t, d, b.journal)
		f.begin()
		change(&f)
		d.Arm(n)
		e := f.c.Commit()
		d.Arm(-1)
		if e != api.OK && e != api.ErrDown {
			t.Fatalf("armed with %d: Commit: %d", n, e)
		}
		for keep := range d.Waiting() + 2 {
			crashed(t, d.Copy(), b.journal, keep, func(did int, f *Tree) {
				if did != done && did != done+1 || e == api.OK && did == done {
					t.Fatalf("armed with %d: %d transactions are done", n, did-done)
				}
				m := []*model{ahead, b.now}[did-done]
				walks(t, "behind a crash", f, m)
				tells(t, "behind a crash", f.Begin(), m)
			})
		}
		if e == api.OK {
			return
		}
	}
}

// crashed calls f with the tree that is on a disk behind a crash, that keeps
// the first so many of what waits and the last one, and with how many
// transactions were done.
func crashed(t *testing.T, d *block.Disk, journal, keep int, f func(done int, f *Tree)) {
	t.Helper()
	var kept []int
	for i := range min(keep, d.Waiting()) {
		kept = append(kept, i)
	}
	if keep > d.Waiting() {
		kept = slices.Compact([]int{0, max(d.Waiting()-1, 0)})
	}
	d.Crash(kept...)
	d.Power()
	l, e := wal.Open(d, journal)
	errs(t, "wal.Open", e, api.OK)
	x, e := inode.Open(l)
	errs(t, "inode.Open", e, api.OK)
	opened, e := Open(x)
	errs(t, "Open", e, api.OK)
	f(l.Done(), opened)
}
