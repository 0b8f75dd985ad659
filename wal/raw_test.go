package wal

import (
	"bytes"
	"crypto/sha256"
	"encoding/binary"
	"slices"
	"testing"

	"creel/api"
	"creel/block"
)

// What stands on a disk, told a second time, from the chapter's words alone.

// be8 and be4 are numbers as eight bytes and as four.
func be8(n uint64) []byte { return binary.BigEndian.AppendUint64(nil, n) }
func be4(n int) []byte    { return binary.BigEndian.AppendUint32(nil, uint32(n)) }

// framed is the framed digest of texts.
func framed(l ...[]byte) []byte {
	var all []byte
	for _, text := range l {
		all = append(append(all, be4(len(text))...), text...)
	}
	sum := sha256.Sum256(all)
	return sum[:]
}

// padded is a sector of these parts, and bytes 0 behind them.
func padded(parts ...[]byte) []byte {
	all := bytes.Join(parts, nil)
	return append(all, make([]byte, api.SectorSize-len(all))...)
}

// rawHead is a head's sector.
func rawHead(n uint64) []byte { return padded(be8(n), framed(be8(n))) }

// rawDigest is a transaction's digest.
func rawDigest(n uint64, w []Write) []byte {
	texts := [][]byte{be8(n), be4(len(w))}
	for _, x := range w {
		texts = append(texts, be4(x.No), x.B)
	}
	return framed(texts...)
}

// rawJournal is a transaction's sectors in the journal, from its front on.
func rawJournal(n uint64, w ...Write) [][]byte {
	var l [][]byte
	for place, x := range w {
		l = append(l, padded(be8(n), be4(place), be4(len(w)), be4(x.No), rawDigest(n, w)), x.B)
	}
	return l
}

// op is one write to a disk's sector, or (below 0) one flush.
type op struct {
	no int
	b  []byte
}

// flush is the one that lays all.
var flush = op{no: -1}

// doneOps are what brings a journalled transaction to the data and the head.
func doneOps(journal int, n uint64, w ...Write) []op {
	var l []op
	for _, x := range w {
		l = append(l, op{1 + journal + x.No, x.B})
	}
	return append(l, flush, op{0, rawHead(n)}, flush)
}

// commitOps are what a commit does, in order.
func commitOps(journal int, n uint64, w ...Write) []op {
	var l []op
	for i, b := range rawJournal(n, w...) {
		l = append(l, op{1 + i, b})
	}
	return append(append(l, flush), doneOps(journal, n, w...)...)
}

// after answers a disk's bytes behind the first ones of what is done to it,
// and a crash that keeps those waiting writes whose bits are set.
func after(laid []byte, l []op, kept uint) []byte {
	laid = bytes.Clone(laid)
	waits := waiting(l)
	for i, x := range l {
		place := i - (len(l) - waits)
		if x.no >= 0 && (place < 0 || kept>>place&1 == 1) {
			copy(laid[x.no*api.SectorSize:], x.b)
		}
	}
	return laid
}

// waiting tells how many writes there are behind the last flush.
func waiting(l []op) int {
	n := 0
	for _, x := range slices.Backward(l) {
		if x.no < 0 {
			break
		}
		n++
	}
	return n
}

// places are those whose bits are set.
func places(kept uint) []int {
	var l []int
	for i := range 64 {
		if kept>>i&1 == 1 {
			l = append(l, i)
		}
	}
	return l
}

// full is a sector's bytes, all of them c.
func full(c byte) []byte { return bytes.Repeat([]byte{c}, api.SectorSize) }

// to is a write of c all over a data sector.
func to(no int, c byte) Write { return Write{No: no, B: full(c)} }

// errs wants an error.
func errs(t *testing.T, what string, got, want api.Errno) {
	t.Helper()
	if got != want {
		t.Fatalf("%s: %d; want %d", what, got, want)
	}
}

// fresh is a new disk.
func fresh(t *testing.T, sectors int) *block.Disk {
	t.Helper()
	d, e := block.New(sectors)
	errs(t, "New", e, api.OK)
	return d
}

// put writes sectors of a disk, from one on, past any log, and flushes them.
func put(t *testing.T, d *block.Disk, no int, l ...[]byte) {
	t.Helper()
	for i, b := range l {
		errs(t, "Write", d.Write(no+i, b), api.OK)
	}
	errs(t, "Flush", d.Flush(), api.OK)
}

// open is a disk's log, which must be had.
func open(t *testing.T, d *block.Disk, journal int) *Log {
	t.Helper()
	l, e := Open(d, journal)
	if e != api.OK || l == nil {
		t.Fatalf("Open: %v, %d", l, e)
	}
	return l
}

// opened is the log of a new disk.
func opened(t *testing.T, sectors, journal int) (*block.Disk, *Log) {
	t.Helper()
	d := fresh(t, sectors)
	return d, open(t, d, journal)
}

// commit commits, and wants it to be done.
func commit(t *testing.T, l *Log, w ...Write) {
	t.Helper()
	errs(t, "Commit", l.Commit(w...), api.OK)
}

// tells wants a log to tell these.
func tells(t *testing.T, l *Log, done int, redone bool) {
	t.Helper()
	if l.Done() != done || l.Redone() != redone {
		t.Fatalf("Done %d, Redone %v; want %d, %v", l.Done(), l.Redone(), done, redone)
	}
}

// reads wants the first data sectors to be these, each all over, and all
// others to be 0.
func reads(t *testing.T, l *Log, want ...byte) {
	t.Helper()
	for no := range l.Sectors() {
		c := byte(0)
		if no < len(want) {
			c = want[no]
		}
		if b, e := l.Read(no); e != api.OK || !bytes.Equal(b, full(c)) {
			t.Fatalf("Read(%d): %v, %d; want %d all over", no, b, e, c)
		}
	}
}

// untouched wants what is done to leave a disk as it is, and to write nothing.
func untouched(t *testing.T, d *block.Disk, what func()) {
	t.Helper()
	laid, writes, flushes, waits := d.Laid(), d.Writes(), d.Flushes(), d.Waiting()
	what()
	if !bytes.Equal(d.Laid(), laid) || d.Writes() != writes || d.Flushes() != flushes || d.Waiting() != waits {
		t.Fatalf("%d writes, %d flushes, %d wait; there were %d, %d, %d",
			d.Writes(), d.Flushes(), d.Waiting(), writes, flushes, waits)
	}
}
