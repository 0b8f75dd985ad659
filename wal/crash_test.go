package wal

import (
	"bytes"
	"fmt"
	"math"
	"math/rand"
	"slices"
	"testing"

	"creel/api"
	"creel/block"
)

// pending is a disk of nine sectors, a journal of 4 and four data sectors
// (9, 8, 7, 0) with transaction 1 done, and 2, if told, whole in the journal.
func pending(t *testing.T, w ...Write) *block.Disk {
	t.Helper()
	d, l := opened(t, 9, 4)
	commit(t, l, to(0, 9), to(1, 8))
	put(t, d, 5+2, full(7))
	if len(w) > 0 {
		put(t, d, 1, rawJournal(2, w...)...)
	}
	return d
}

// recoverOps are what recovering does to a disk of which this is laid, on
// which a commit of these writes was begun.
func recoverOps(journal int, laid []byte, n uint64, w []Write) []op {
	switch {
	case bytes.HasPrefix(laid, be8(n)):
		return nil
	case bytes.HasPrefix(laid[64:], bytes.Join(rawJournal(n, w...), nil)):
		return doneOps(journal, n, w...)
	case bytes.HasPrefix(laid[64:], be8(n)):
		return []op{{1, full(0)}, flush}
	}
	return nil
}

// crashes calls f with a copy of the disk for each way in which a crash ends
// what is done to it, with what is done up to there and laid then.
func crashes(t *testing.T, d *block.Disk, l []op, what func(*block.Disk) api.Errno, f func(c *block.Disk)) {
	t.Helper()
	for n := range len(l) {
		for kept := range uint(1) << waiting(l[:n]) {
			c := d.Copy()
			c.Arm(n)
			errs(t, fmt.Sprintf("armed with %d of %d", n, len(l)), what(c), api.ErrDown)
			c.Crash(places(kept)...)
			if !bytes.Equal(c.Laid(), after(d.Laid(), l[:n], kept)) {
				t.Fatalf("armed with %d, kept %b: something else is laid", n, kept)
			}
			c.Power()
			f(c)
		}
	}
	c := d.Copy()
	c.Arm(len(l))
	errs(t, fmt.Sprintf("armed with all %d", len(l)), what(c), api.OK)
	c.Crash()
	c.Power()
	f(c)
}

// reopened opens a disk for good, and wants it to be as it is told.
func reopened(t *testing.T, d *block.Disk, journal, done int, redone bool, data []byte) {
	t.Helper()
	l := open(t, d, journal)
	tells(t, l, done, redone)
	if got := d.Laid()[(1+journal)*64:]; !bytes.Equal(got, data) {
		t.Fatalf("done %d: the data are %x", done, got)
	}
	if d.Waiting() != 0 {
		t.Fatalf("%d writes wait", d.Waiting())
	}
	untouched(t, d, func() { tells(t, open(t, d, journal), done, false) })
}

// P4.3: the power goes at each write and each flush of a commit, whatever a
// crash keeps, and then at each of the recovery, whatever that crash keeps:
// the data are as ahead of it or behind it in the end, and behind it if the
// commit was answered; what recovery does is as the chapter says.
func TestCrashes(t *testing.T) {
	for _, w := range [][]Write{
		{to(2, 1)},
		{to(3, 1), to(0, 2)},
		{to(0, 1), to(1, 2), to(2, 3)},
		{to(0, 9), to(1, 8)}, // nothing that is new
	} {
		const journal = 6
		d, l := opened(t, 11, journal)
		commit(t, l, to(0, 9), to(1, 8), to(2, 7))
		const data = (1 + journal) * 64
		old, ops := d.Laid(), commitOps(journal, 2, w...)
		behind := after(old, ops, 0)
		commits := func(c *block.Disk) api.Errno { return open(t, c, journal).Commit(w...) }
		crashes(t, d, ops, commits, func(c *block.Disk) {
			laid := c.Laid()
			mends := recoverOps(journal, laid, 2, w)
			isDone := len(mends) > 2 || bytes.HasPrefix(laid, be8(2))
			done, want := 1, old
			if isDone {
				done, want = 2, behind
			}
			opens := func(c *block.Disk) api.Errno { _, e := Open(c, journal); return e }
			crashes(t, c, mends, opens, func(c *block.Disk) {
				redone := len(recoverOps(journal, c.Laid(), 2, w)) > 2
				reopened(t, c, journal, done, redone, want[data:])
			})
		})
	}
}

// P4.3: a commit that was answered stays, whatever a crash is told to keep.
func TestAnsweredStays(t *testing.T) {
	d, l := opened(t, 9, 4)
	for i := range byte(20) {
		commit(t, l, to(int(i%4), i), to(int((i+1)%4), i))
		d.Crash(places(uint(i))...)
		d.Power()
		l = open(t, d, 4)
		tells(t, l, int(i)+1, false)
		for _, no := range []int{int(i % 4), int((i + 1) % 4)} {
			if b, e := l.Read(no); e != api.OK || !bytes.Equal(b, full(i)) {
				t.Fatalf("%d: %v, %d", i, b, e)
			}
		}
	}
}

// P4.3: a transaction that failed isn't made whole by what comes behind it,
// though it has the same number: two commits, and the power goes in each.
func TestFailedStaysFailed(t *testing.T) {
	const journal, data = 4, 5 * 64
	first := []Write{to(0, 1), to(1, 2)}
	for _, second := range [][]Write{
		{to(2, 3), to(1, 2)},
		{to(0, 1), to(2, 3)},
		{to(1, 2), to(0, 1)},
		{to(2, 4)},
		first,
	} {
		commits := func(w []Write) func(*block.Disk) api.Errno {
			return func(c *block.Disk) api.Errno { return open(t, c, journal).Commit(w...) }
		}
		crashes(t, pending(t), commitOps(journal, 2, first...), commits(first), func(c *block.Disk) {
			done := open(t, c, journal).Done()
			ops := commitOps(journal, uint64(done+1), second...)
			states := [][]byte{c.Laid(), after(c.Laid(), ops, 0)}
			crashes(t, c, ops, commits(second), func(c *block.Disk) {
				got := open(t, c, journal).Done() - done
				if laid := c.Laid(); !bytes.Equal(laid[data:], states[got][data:]) {
					t.Fatalf("done %d and %d: the data are %x", done, got, laid[data:])
				}
			})
		})
	}
}

// P4.1: a transaction that is whole in the journal is done, once.
func TestRedone(t *testing.T) {
	d := pending(t, to(3, 1), to(0, 2))
	writes, flushes := d.Writes(), d.Flushes()
	l := open(t, d, 4)
	tells(t, l, 2, true)
	reads(t, l, 2, 8, 7, 1)
	if d.Writes()-writes != 3 || d.Flushes()-flushes != 2 || d.Waiting() != 0 {
		t.Fatalf("%d writes, %d flushes, %d wait", d.Writes()-writes, d.Flushes()-flushes, d.Waiting())
	}
	commit(t, l, to(1, 5))
	tells(t, l, 3, true)
	untouched(t, d, func() { tells(t, open(t, d, 4), 3, false) })
	reads(t, l, 2, 5, 7, 1)
}

// P4.1: a disk that goes down while it is recovered isn't opened.
func TestRecoveryGoesDown(t *testing.T) {
	for n := range 5 {
		d := pending(t, to(3, 1), to(0, 2))
		d.Arm(n)
		if l, e := Open(d, 4); l != nil || e != api.ErrDown {
			t.Fatalf("armed with %d: %v, %d", n, l, e)
		}
	}
	for n := range 2 {
		d := pending(t, to(3, 1), to(0, 2))
		put(t, d, 3, full(0))
		d.Arm(n)
		if l, e := Open(d, 4); l != nil || e != api.ErrDown {
			t.Fatalf("armed with %d: %v, %d", n, l, e)
		}
	}
}

// P4.1, P4.3: a journal of which any bit is wrong isn't done; where it begins
// with the next number still, its first sector becomes bytes 0.
func TestSpoiledJournal(t *testing.T) {
	w := []Write{to(3, 1), to(0, 2)}
	right := bytes.Join(rawJournal(2, w...), nil)
	for bit := range 8 * len(right) {
		d := pending(t, w...)
		spoiled := bytes.Clone(right)
		spoiled[bit/8] ^= 1 << (bit % 8)
		put(t, d, 1, slices.Collect(slices.Chunk(spoiled, 64))...)
		cleared(t, d, bit >= 64, fmt.Sprint("bit ", bit))
	}
}

// cleared wants a pending disk to be opened with nothing done but, if told,
// the journal's first sector becoming bytes 0.
func cleared(t *testing.T, d *block.Disk, first bool, what string) {
	t.Helper()
	want, writes, flushes := d.Laid(), d.Writes(), d.Flushes()
	if first {
		clear(want[64:128])
		writes, flushes = writes+1, flushes+1
	}
	l, e := Open(d, 4)
	if e != api.OK || l.Done() != 1 || l.Redone() || !bytes.Equal(d.Laid(), want) {
		t.Fatalf("%s: %v, %d; laid %x", what, l, e, d.Laid())
	}
	if d.Writes() != writes || d.Flushes() != flushes || d.Waiting() != 0 {
		t.Fatalf("%s: %d writes, %d flushes, %d wait", what, d.Writes(), d.Flushes(), d.Waiting())
	}
	untouched(t, d, func() { open(t, d, 4) })
}

// P4.1: journals with right digests that are no transaction's that comes next
// here.
func TestStrangeJournals(t *testing.T) {
	all := []Write{to(0, 1), to(1, 2), to(2, 3)}
	for what, c := range map[string]struct {
		l     [][]byte
		first bool
	}{
		"the one that is done":    {rawJournal(1, all[:2]...), false},
		"the one behind the next": {rawJournal(3, all[:2]...), false},
		"number 0":                {rawJournal(0, all[:2]...), false},
		"a number with 2^63":      {rawJournal(1<<63+2, all[:2]...), false},
		"more than the most":      {rawJournal(2, all...), true}, // the third one's stand in the data
		"a sector that isn't":     {rawJournal(2, to(0, 1), to(4, 2)), true},
		"a sector far away":       {rawJournal(2, to(math.MaxUint32, 1)), true},
		"two writes to a sector":  {rawJournal(2, to(1, 1), to(1, 2)), true},
		"no writes": {[][]byte{
			padded(be8(2), be4(0), be4(0), be4(0), rawDigest(2, nil)), full(1)}, true},
		"very many writes": {[][]byte{
			padded(be8(2), be4(0), be4(math.MaxUint32), be4(0), rawDigest(2, all[:1])), full(1)}, true},
		"the second place first": {slices.Concat(rawJournal(2, all[:2]...)[2:], rawJournal(2, all[:2]...)[:2]), true},
		"the first place twice":  {slices.Concat(rawJournal(2, all[:2]...)[:2], rawJournal(2, all[:2]...)[:2]), true},
		"the second number's":    {slices.Concat(rawJournal(2, all[:2]...)[:2], rawJournal(1, all[:2]...)[2:]), true},
		"another one's second":   {slices.Concat(rawJournal(2, all[:2]...)[:2], rawJournal(2, all[0], all[2])[2:]), true},
		"only the number":        {[][]byte{padded(be8(2))}, true},
	} {
		d := pending(t)
		put(t, d, 1, c.l...)
		cleared(t, d, c.first, what)
	}
}

// P4.1: what stands behind a transaction's writes in the journal is nothing of
// its own.
func TestShorterJournal(t *testing.T) {
	d := pending(t, to(3, 1))
	put(t, d, 3, rawJournal(2, to(0, 5), to(1, 6))[2:]...)
	l := open(t, d, 4)
	tells(t, l, 2, true)
	reads(t, l, 9, 8, 7, 1)
}

// world is a log that commits, crashes and is opened as chance has it, beside
// what its data may be.
type world struct {
	d            *block.Disk
	l            *Log
	data, behind []byte
	done         int
}

// commit commits what chance has, armed or not.
func (w *world) commit(t *testing.T, r *rand.Rand) {
	t.Helper()
	var l []Write
	w.behind = bytes.Clone(w.data)
	for _, no := range r.Perm(len(w.data))[:r.Intn(min(w.l.Most(), len(w.data))+1)] {
		c := byte(r.Intn(256))
		l, w.behind[no] = append(l, to(no, c)), c
	}
	n := r.Intn(2*(3*len(l)+4)) - 2
	w.d.Arm(n)
	e := w.l.Commit(l...)
	w.d.Arm(-1)
	down := len(l) > 0 && n >= 0 && n < 3*len(l)+4
	if (e == api.ErrDown) != down || e != api.OK && !down {
		t.Fatalf("armed with %d, %d writes: %d", n, len(l), e)
	}
	if e == api.OK {
		w.data = w.behind
		w.done += min(len(l), 1)
	}
}

// crash crashes with whatever is kept, and opens, with crashes on the way.
func (w *world) crash(t *testing.T, r *rand.Rand) {
	t.Helper()
	for e := api.ErrDown; e != api.OK; {
		w.d.Crash(places(uint(r.Uint64()))...)
		w.d.Power()
		w.d.Arm(r.Intn(12) - 1)
		w.l, e = Open(w.d, 2*3)
		if e != api.OK && e != api.ErrDown {
			t.Fatalf("Open: %d", e)
		}
		w.d.Arm(-1)
	}
	if w.l.Done() == w.done+1 {
		w.data, w.done = w.behind, w.done+1
	}
}

// P4.1 to P4.3, P2: whatever is done in whatever order, the data are those of
// the transactions that are done.
func TestChance(t *testing.T) {
	run := func(seed int64) []byte {
		r := rand.New(rand.NewSource(seed))
		d, l := opened(t, 8+r.Intn(8), 6)
		w := &world{d: d, l: l, data: make([]byte, l.Sectors())}
		for range 60 {
			w.commit(t, r)
			if !d.On() || r.Intn(4) == 0 {
				w.crash(t, r)
			}
			if w.l.Done() != w.done {
				t.Fatalf("seed %d: done %d; want %d", seed, w.l.Done(), w.done)
			}
			reads(t, w.l, w.data...)
		}
		return d.Laid()
	}
	for seed := range int64(150) {
		if !bytes.Equal(run(seed), run(seed)) {
			t.Fatalf("seed %d: not the same twice", seed)
		}
	}
}
