package wal

import (
	"bytes"
	"math"
	"slices"
	"testing"

	"creel/api"
	"creel/block"
)

// P4.1: which journals there may be, on which disks.
func TestOpenBounds(t *testing.T) {
	for _, c := range []struct {
		sectors, journal int
		want             api.Errno
	}{
		{4, 2, api.OK},
		{3, 2, api.ErrArg},
		{1, 2, api.ErrArg},
		{6, 4, api.OK},
		{5, 4, api.ErrArg},
		{1026, 1024, api.OK},
		{1025, 1024, api.ErrArg},
		{4096, 1024, api.OK},
		{4096, 2, api.OK},
		{4096, 1022, api.OK},
		{4096, 1026, api.ErrArg},
		{4096, 1025, api.ErrArg},
		{4096, 1023, api.ErrArg},
		{4096, 3, api.ErrArg},
		{4096, 1, api.ErrArg},
		{4096, 0, api.ErrArg},
		{4096, -1, api.ErrArg},
		{4096, -2, api.ErrArg},
		{4096, math.MaxInt, api.ErrArg},
		{4096, math.MaxInt - 1, api.ErrArg},
		{4096, math.MinInt, api.ErrArg},
	} {
		d := fresh(t, c.sectors)
		untouched(t, d, func() {
			l, e := Open(d, c.journal)
			if e != c.want || (l != nil) != (e == api.OK) {
				t.Fatalf("Open of %d sectors, %d: %v, %d; want %d", c.sectors, c.journal, l, e, c.want)
			}
			if e != api.OK {
				return
			}
			tells(t, l, 0, false)
			if l.Sectors() != c.sectors-c.journal-1 || l.Most() != c.journal/2 {
				t.Fatalf("%d sectors, most %d", l.Sectors(), l.Most())
			}
		})
	}
}

// P4.1: without power a disk isn't looked at, and no disk has no power.
func TestOpenWithoutPower(t *testing.T) {
	d := fresh(t, 6)
	put(t, d, 0, full(9))
	d.Crash()
	for _, x := range []*block.Disk{d, nil, {}} {
		for _, journal := range []int{2, 3, 0, 1000} {
			if l, e := Open(x, journal); l != nil || e != api.ErrDown {
				t.Fatalf("Open without power: %v, %d", l, e)
			}
		}
	}
	d.Power()
	if _, e := Open(d, 3); e != api.ErrArg {
		t.Fatalf("what isn't a journal is told ahead of the head: %d", e)
	}
}

// P4.1: a head with any bit wrong isn't right.
func TestSpoiledHead(t *testing.T) {
	for _, right := range [][]byte{make([]byte, 64), rawHead(1), rawHead(0x0102030405060708)} {
		for bit := range 8 * api.SectorSize {
			d := fresh(t, 4)
			head := bytes.Clone(right)
			head[bit/8] ^= 1 << (bit % 8)
			put(t, d, 0, head)
			untouched(t, d, func() {
				if l, e := Open(d, 2); l != nil || e != api.ErrSum {
					t.Fatalf("bit %d of %x: %v, %d", bit, right, l, e)
				}
			})
		}
	}
}

// P4.1: heads up to 2^60 are right, and greater ones aren't.
func TestHeads(t *testing.T) {
	for _, n := range []uint64{0, 1, 255, 256, 1 << 32, 1<<60 - 1, 1 << 60} {
		d := fresh(t, 4)
		put(t, d, 0, rawHead(n))
		untouched(t, d, func() { tells(t, open(t, d, 2), int(n), false) })
	}
	for _, n := range []uint64{1<<60 + 1, 1 << 61, 1 << 63, 1<<63 + 1, math.MaxUint64} {
		d := fresh(t, 4)
		put(t, d, 0, rawHead(n))
		untouched(t, d, func() {
			if l, e := Open(d, 2); l != nil || e != api.ErrSum {
				t.Fatalf("head of %d: %v, %d", n, l, e)
			}
		})
	}
}

// P4.1: the edge of the numbers, in a commit.
func TestLastNumber(t *testing.T) {
	d := fresh(t, 5)
	put(t, d, 0, rawHead(1<<60-1))
	l := open(t, d, 2)
	commit(t, l, to(1, 5))
	tells(t, l, 1<<60, false)
	for range 2 {
		untouched(t, d, func() {
			errs(t, "one too many", l.Commit(to(0, 1)), api.ErrFull)
			errs(t, "none", l.Commit(), api.ErrFull)
			errs(t, "a wrong one", l.Commit(to(2, 1)), api.ErrArg)
			errs(t, "two to one", l.Commit(to(0, 1), to(0, 1)), api.ErrTwice)
		})
		tells(t, l, 1<<60, false)
		reads(t, l, 0, 5)
		l = open(t, d, 2)
	}
}

// P4.1: the last number may be redone, and one more isn't a transaction's.
func TestLastNumberRedone(t *testing.T) {
	d := fresh(t, 5)
	put(t, d, 0, rawHead(1<<60-1))
	put(t, d, 1, rawJournal(1<<60, to(1, 5))...)
	l := open(t, d, 2)
	tells(t, l, 1<<60, true)
	reads(t, l, 0, 5)

	put(t, d, 1, rawJournal(1<<60+1, to(0, 6))...)
	l = open(t, d, 2)
	tells(t, l, 1<<60, false)
	reads(t, l, 0, 5)
	if b := d.Laid()[64:128]; !bytes.Equal(b, full(0)) {
		t.Fatalf("the journal begins with %v", b)
	}
	untouched(t, d, func() { open(t, d, 2) })
}

// P4.2: which writes are right, whatever the disk.
func TestCheck(t *testing.T) {
	short, long := Write{No: 3, B: full(1)[1:]}, Write{No: 3, B: append(full(1), 1)}
	for i, c := range []struct {
		w    []Write
		want api.Errno
	}{
		{nil, api.OK},
		{[]Write{to(0, 1)}, api.OK},
		{[]Write{to(math.MaxInt, 1), to(4096, 1), to(0, 1), to(1, 1)}, api.OK},
		{[]Write{to(-1, 1)}, api.ErrArg},
		{[]Write{to(math.MinInt, 1)}, api.ErrArg},
		{[]Write{{}}, api.ErrArg},
		{[]Write{{No: 1, B: []byte{}}}, api.ErrArg},
		{[]Write{short}, api.ErrArg},
		{[]Write{long}, api.ErrArg},
		{[]Write{to(0, 1), to(1, 1), to(0, 1)}, api.ErrTwice},
		{[]Write{to(0, 1), to(0, 2)}, api.ErrTwice},
		{[]Write{to(math.MaxInt, 1), to(math.MaxInt, 1)}, api.ErrTwice},
		{[]Write{to(0, 1), to(0, 1), to(-1, 1)}, api.ErrArg},
		{[]Write{to(0, 1), to(0, 1), short}, api.ErrArg},
		{[]Write{to(3, 1), long}, api.ErrArg},
		{[]Write{to(-1, 1), to(-1, 1)}, api.ErrArg},
	} {
		if got := Check(c.w...); got != c.want {
			t.Errorf("%d: %d; want %d", i, got, c.want)
		}
	}
}

// P4.2: what a commit refuses, each ahead of what is named behind it, and with
// nothing done.
func TestCommitRefuses(t *testing.T) {
	d, l := opened(t, 10, 4) // five data sectors, two writes
	commit(t, l, to(4, 1), to(0, 2))
	short := Write{No: 1, B: full(1)[1:]}
	for i, c := range []struct {
		w    []Write
		want api.Errno
	}{
		{[]Write{to(-1, 1)}, api.ErrArg},
		{[]Write{to(5, 1)}, api.ErrArg},
		{[]Write{to(math.MaxInt, 1)}, api.ErrArg},
		{[]Write{to(math.MinInt, 1)}, api.ErrArg},
		{[]Write{short}, api.ErrArg},
		{[]Write{to(0, 1), {No: 1}}, api.ErrArg},
		{[]Write{to(0, 1), to(0, 1)}, api.ErrTwice},
		{[]Write{to(0, 1), to(1, 1), to(0, 1)}, api.ErrTwice},
		{[]Write{to(7, 1), to(7, 1)}, api.ErrTwice},
		{[]Write{to(0, 1), to(1, 1), to(5, 1)}, api.ErrArg},
		{[]Write{to(0, 1), to(1, 1), to(2, 1)}, api.ErrFull},
		{[]Write{to(0, 1), to(1, 1), to(2, 1), to(3, 1), to(4, 1)}, api.ErrFull},
	} {
		untouched(t, d, func() {
			if got := l.Commit(c.w...); got != c.want {
				t.Errorf("%d: %d; want %d", i, got, c.want)
			}
		})
	}
	untouched(t, d, func() { errs(t, "Commit of nothing", l.Commit(), api.OK) })
	tells(t, l, 1, false)
	reads(t, l, 2, 0, 0, 0, 1)
	d.Crash()
	for _, w := range [][]Write{nil, {short}, {to(5, 1)}, {to(0, 1), to(0, 1)}, {to(0, 1)}} {
		errs(t, "Commit without power", l.Commit(w...), api.ErrDown)
	}
	tells(t, l, 1, false)
}

// P4.2: data sectors are read, and no others.
func TestRead(t *testing.T) {
	d, l := opened(t, 6, 2)
	commit(t, l, to(2, 7))
	reads(t, l, 0, 0, 7)
	for _, no := range []int{-1, -3, -4, 3, 4, math.MaxInt, math.MaxInt - 2, math.MinInt} {
		if b, e := l.Read(no); b != nil || e != api.ErrArg {
			t.Errorf("Read(%d): %v, %d", no, b, e)
		}
	}
	d.Crash()
	for _, no := range []int{0, -1, 3} {
		if b, e := l.Read(no); b != nil || e != api.ErrDown {
			t.Errorf("Read(%d) without power: %v, %d", no, b, e)
		}
	}
}

// The chapter's example, and as many writes as there may be.
func TestMost(t *testing.T) {
	_, l := opened(t, 6, 2)
	if l.Sectors() != 3 {
		t.Fatal(l.Sectors())
	}
	errs(t, "two writes", l.Commit(to(0, 1), to(1, 1)), api.ErrFull)

	d, l := opened(t, 4096, 1024)
	var w []Write
	for i := range 513 {
		w = append(w, to((i*6+3)%3071, byte(i)))
	}
	errs(t, "513 writes", l.Commit(w...), api.ErrFull)
	commit(t, l, w[:512]...)
	want := make([]byte, 3071)
	for i := range 512 {
		want[(i*6+3)%3071] = byte(i)
	}
	reads(t, l, want...)
	laid := after(make([]byte, 4096*64), commitOps(1024, 1, w[:512]...), 0)
	if !bytes.Equal(d.Laid(), laid) {
		t.Fatal("something else is laid than the chapter says")
	}
	reads(t, open(t, d, 1024), want...)
}

// P4.2, P4.3: what a commit does to the disk, write by write, and how far it
// comes where the power goes.
func TestWhatACommitWrites(t *testing.T) {
	w := []Write{to(3, 1), to(0, 2), to(2, 3)}
	ops := commitOps(8, 2, w...)
	for n := range len(ops) + 2 {
		d, l := opened(t, 14, 8)
		commit(t, l, to(3, 8), to(1, 9), to(2, 9), to(0, 7))
		laid, writes, flushes := d.Laid(), d.Writes(), d.Flushes()
		d.Arm(n)
		e := l.Commit(w...)
		done := ops[:min(n, len(ops))]
		if want := n >= len(ops); (e == api.OK) != want || d.On() != want || e != api.OK && e != api.ErrDown {
			t.Fatalf("armed with %d of %d: %d, on: %v", n, len(ops), e, d.On())
		}
		tells(t, l, 1+n/len(ops), false)
		asked := slices.DeleteFunc(slices.Clone(done), func(x op) bool { return x.no >= 0 })
		if d.Flushes()-flushes != len(asked) || d.Writes()-writes != len(done)-len(asked) || d.Waiting() != waiting(done) {
			t.Fatalf("armed with %d: %d writes, %d flushes, %d wait", n, d.Writes()-writes, d.Flushes()-flushes, d.Waiting())
		}
		if !bytes.Equal(d.Laid(), after(laid, done, 0)) {
			t.Fatalf("armed with %d: something else is laid", n)
		}
		d.Crash(places(math.MaxUint)...)
		if !bytes.Equal(d.Laid(), after(laid, done, math.MaxUint)) {
			t.Fatalf("armed with %d: something else waits", n)
		}
	}
}

// P4.1, P4.2: transactions are counted, and are there when opened again.
func TestNumbers(t *testing.T) {
	d, l := opened(t, 8, 4)
	for i := 1; i <= 300; i++ {
		commit(t, l, to(i%3, byte(i)), to((i+1)%3, byte(i+1)))
		commit(t, l)
		tells(t, l, i, false)
		if !bytes.Equal(d.Laid()[:64], rawHead(uint64(i))) {
			t.Fatalf("head %d: %x", i, d.Laid()[:64])
		}
		untouched(t, d, func() { tells(t, open(t, d, 4), i, false) })
		if i%7 == 0 {
			l = open(t, d, 4)
		}
	}
}

// P4.3: bytes and lists that are handed in are neither kept nor changed, and
// answers are new memory.
func TestBytesAreNew(t *testing.T) {
	d, l := opened(t, 10, 4)
	w := []Write{to(1, 1), to(0, 2)}
	commit(t, l, w...)
	if w[0].No != 1 || w[1].No != 0 || !bytes.Equal(w[0].B, full(1)) || !bytes.Equal(w[1].B, full(2)) {
		t.Fatal("what is handed in is changed")
	}
	clear(w[0].B)
	w[1] = to(4, 9)
	reads(t, l, 2, 1)
	b, _ := l.Read(0)
	b[0] = 9
	reads(t, l, 2, 1)
	reads(t, open(t, d, 4), 2, 1)
}

// P4.3: a nil log tells nothing, and one that Open didn't make has no power.
func TestNilLog(t *testing.T) {
	for _, c := range []struct {
		l    *Log
		want api.Errno
	}{{nil, api.ErrState}, {&Log{}, api.ErrDown}} {
		for _, w := range [][]Write{nil, {to(0, 1)}, {to(-1, 1)}, {{}}, {to(0, 1), to(0, 1)}} {
			errs(t, "Commit", c.l.Commit(w...), c.want)
		}
		for _, no := range []int{0, -1, math.MaxInt} {
			if b, e := c.l.Read(no); b != nil || e != c.want {
				t.Errorf("Read(%d): %v, %d", no, b, e)
			}
		}
		if c.l.Sectors() != 0 || c.l.Most() != 0 || c.l.Done() != 0 || c.l.Redone() {
			t.Error("it tells something")
		}
	}
}
