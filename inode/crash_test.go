package inode

import (
	"bytes"
	"fmt"
	"math/rand"
	"testing"

	"creel/api"
	"creel/block"
	"creel/mode"
	"creel/wal"
)

// keeps are the ways in which a crash keeps some of what waits: all there are
// of a few writes; of more none, all, each alone, all but each, and some.
func keeps(waits int) [][]int {
	var l [][]int
	set := func(has func(i int) bool) {
		var places []int
		for i := range waits {
			if has(i) {
				places = append(places, i)
			}
		}
		l = append(l, places)
	}
	if waits <= 5 {
		for bits := range 1 << waits {
			set(func(i int) bool { return bits>>i&1 == 1 })
		}
		return l
	}
	set(func(int) bool { return false })
	set(func(int) bool { return true })
	for one := range waits {
		set(func(i int) bool { return i == one })
		set(func(i int) bool { return i != one })
		set(func(i int) bool { return i < one })
	}
	r := rand.New(rand.NewSource(int64(waits)))
	for range 4 {
		set(func(int) bool { return r.Intn(2) == 0 })
	}
	return l
}

// crashed calls f with a copy of the disk for each way in which a crash ends
// what is done to it, and tells whether that was answered.
func crashed(t *testing.T, d *block.Disk, what func(*block.Disk) api.Errno, f func(c *block.Disk, answered bool)) {
	t.Helper()
	for n := 0; ; n++ {
		c := d.Copy()
		c.Arm(n)
		e := what(c)
		if e != api.OK && (e != api.ErrDown || c.On()) {
			t.Fatalf("armed with %d: %d", n, e)
		}
		for _, keep := range keeps(c.Waiting()) {
			k := c.Copy()
			k.Crash(keep...)
			k.Power()
			f(k, e == api.OK)
		}
		if e == api.OK {
			return
		}
	}
}

// opens opens a disk's log.
func opens(journal int) func(*block.Disk) api.Errno {
	return func(c *block.Disk) api.Errno { _, e := wal.Open(c, journal); return e }
}

// started is a table of four nodes, three of them not free, and 16 blocks.
func started(t *testing.T) *bench {
	t.Helper()
	b := formatted(t, 60, 4, 16)
	b.must(t, file(3, 130), file(0, 64))
	b.must(t, drop(0), file(1, 100), file(2, 0))
	return b
}

// P7.4: the power goes at each write and flush of changes, whatever a crash
// keeps: beside the error the table tells what it told before, and opened again
// it tells that still, or what is behind the changes; that, if it was answered.
func TestCrashes(t *testing.T) {
	for i, l := range [][]Change{
		{file(0, 512)},
		{file(3, 1)},
		{drop(3)},
		{drop(0)},
		{file(3, 0), file(1, 400), drop(2)},
		{file(1, 130), file(3, 100)}, // each has what the other had
		{drop(1), drop(3), file(0, 300), file(2, 65)},
		{file(3, 130)}, // nothing that is new but its blocks
	} {
		what := fmt.Sprint("changes ", i)
		b := started(t)
		behind, _, e := b.m.apply(b.l.Most(), l...)
		errs(t, what, e, api.OK)
		applies := func(c *block.Disk) api.Errno {
			x, e := Open(opened(t, c, b.journal))
			errs(t, what, e, api.OK)
			want := b.m
			if e = x.Apply(l...); e == api.OK {
				want = behind
			}
			tells(t, what, x, want)
			return e
		}
		crashed(t, b.d, applies, func(c *block.Disk, answered bool) {
			l := opened(t, c, b.journal)
			switch l.Done() - b.l.Done() {
			case 1:
				stands(t, what+", behind", l, behind)
			case 0:
				stands(t, what+", ahead", l, b.m)
				if answered {
					t.Fatalf("%s: they were answered, and aren't there", what)
				}
			default:
				t.Fatalf("%s: %d transactions", what, l.Done())
			}
		})
	}
}

// P7.4: the power goes once more while what was cut off is recovered.
func TestCrashesTwice(t *testing.T) {
	b := started(t)
	l := []Change{file(1, 200), drop(3), file(0, 65)}
	behind, _, _ := b.m.apply(b.l.Most(), l...)
	applies := func(c *block.Disk) api.Errno {
		x, _ := Open(opened(t, c, b.journal))
		return x.Apply(l...)
	}
	crashed(t, b.d, applies, func(c *block.Disk, _ bool) {
		want := b.m
		if again := c.Copy(); opened(t, again, b.journal).Done() > b.l.Done() {
			want = behind
		}
		n := 0
		crashed(t, c, opens(b.journal), func(c *block.Disk, _ bool) {
			if n++; n%5 == 0 { // some of very many
				stands(t, "recovered twice", opened(t, c, b.journal), want)
			}
		})
	})
}

// P7.1, P7.4: the power goes at each write and flush of formatting, also where
// something is to be cleared first: there is no table, or it has no nodes; where
// there is none, one may be formatted.
func TestFormatCrashes(t *testing.T) {
	for _, journal := range []int{2, 4, 6, 60} {
		d, _, m := dirty(t, journal)
		formats := func(c *block.Disk) api.Errno {
			x, e := Format(opened(t, c, journal), 6)
			if (x != nil) != (e == api.OK) {
				t.Fatalf("Format: %v, %d", x, e)
			}
			return e
		}
		crashed(t, d, formats, func(c *block.Disk, answered bool) {
			l := opened(t, c, journal)
			front, _ := l.Read(0)
			if bytes.Equal(front, padded()) {
				if x, e := Open(l); x != nil || e != api.ErrForm || answered {
					t.Fatalf("Open: %v, %d; answered: %v", x, e, answered)
				}
				x, e := Format(l, 6)
				errs(t, "Format again", e, api.OK)
				tells(t, "formatted again", x, m)
			}
			stands(t, "formatted", l, m)
		})
	}
}

// P7.2: beside the log's error the table tells what it told before, and may be
// asked on; the same changes are made once there is power.
func TestApplyOnceMore(t *testing.T) {
	b := started(t)
	l := []Change{file(0, 130), file(3, 0)}
	behind, written, _ := b.m.apply(b.l.Most(), l...)
	for n := range 2*len(written) + 1 { // ahead of the journal's flush
		b.d.Arm(n)
		errs(t, "Apply", b.x.Apply(l...), api.ErrDown)
		tells(t, "without power", b.x, b.m)
		b.d.Power()
		tells(t, "with power again", b.x, b.m)
	}
	errs(t, "Apply", b.x.Apply(l...), api.OK)
	tells(t, "behind", b.x, behind)
	stands(t, "behind", b.l, behind)
}

// anyChange is a change by chance, which may be wrong.
func anyChange(r *rand.Rand, nodes int) Change {
	s := mode.Stat{Kind: r.Intn(5), Mode: r.Intn(4096), Owner: r.Intn(65536), Group: r.Intn(65536)}
	switch r.Intn(120) {
	case 0:
		s.Kind = 5
	case 1:
		s.Mode = 4096
	case 2:
		s.Group = -1
	}
	sizes := []int{0, 1, 64, 65, 128, 200, 511, 512, r.Intn(300), r.Intn(514)}
	data := make([]byte, sizes[r.Intn(len(sizes))])
	r.Read(data)
	no := r.Intn(nodes)
	if r.Intn(100) == 0 {
		no = r.Intn(3*nodes) - nodes
	}
	return Change{no, Node{s, data}, r.Intn(4) == 0}
}

// P7.1 to P7.4, P2: whatever is done in whatever order, a table tells what the
// model does, opened again too, and with crashes; the same twice.
func TestChance(t *testing.T) {
	run := func(seed int64) []byte {
		r := rand.New(rand.NewSource(seed))
		b := formatted(t, 2*(1+r.Intn(30)), 1+r.Intn(9), 1+r.Intn(40))
		for range 40 {
			var l []Change
			for range r.Intn(5) {
				l = append(l, anyChange(r, len(b.m.nodes)))
			}
			if r.Intn(4) > 0 {
				b.apply(t, l...)
			} else {
				b.crash(t, r, l)
			}
			if r.Intn(4) == 0 {
				b.l = opened(t, b.d, b.journal)
				b.x = stands(t, "opened again", b.l, b.m)
			}
		}
		return b.d.Laid()
	}
	for seed := range int64(200) {
		if !bytes.Equal(run(seed), run(seed)) {
			t.Fatalf("seed %d: not the same twice", seed)
		}
	}
}

// crash applies changes on an armed disk, crashes it, and opens what is there.
func (b *bench) crash(t *testing.T, r *rand.Rand, l []Change) {
	t.Helper()
	behind, written, e := b.m.apply(b.l.Most(), l...)
	done, total := b.l.Done(), 3*len(written)+4
	n := r.Intn(2 * total)
	if len(written) == 0 {
		total = 0
	}
	if n < total {
		e = api.ErrDown
	}
	b.d.Arm(n)
	errs(t, "Apply, armed", b.x.Apply(l...), e)
	if n < total {
		tells(t, "cut off", b.x, b.m)
	}
	var keep []int
	for i := range b.d.Waiting() {
		if r.Intn(2) == 0 {
			keep = append(keep, i)
		}
	}
	b.d.Crash(keep...)
	b.d.Power()
	b.l = opened(t, b.d, b.journal)
	if b.l.Done() > done {
		b.m = behind
	} else if e == api.OK && total > 0 {
		t.Fatal("what was answered isn't there")
	}
	b.x = stands(t, "behind a crash", b.l, b.m)
}
