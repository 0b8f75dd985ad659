package block

import (
	"bytes"
	"math"
	"slices"
	"testing"

	"creel/api"
)

// full answers a sector's bytes, all of them c.
func full(c byte) []byte { return bytes.Repeat([]byte{c}, api.SectorSize) }

// fresh answers a new disk of so many sectors.
func fresh(t *testing.T, sectors int) *Disk {
	t.Helper()
	d, e := New(sectors)
	if e != api.OK || d == nil {
		t.Fatalf("New(%d): %v, %d", sectors, d, e)
	}
	return d
}

// write writes c all over each sector, in order, and wants it to be done.
func write(t *testing.T, d *Disk, c byte, nos ...int) {
	t.Helper()
	for _, no := range nos {
		if e := d.Write(no, full(c)); e != api.OK {
			t.Fatalf("Write(%d): %d", no, e)
		}
	}
}

// reads wants a sector to be read as c all over.
func reads(t *testing.T, d *Disk, no int, c byte) {
	t.Helper()
	if b, e := d.Read(no); e != api.OK || !bytes.Equal(b, full(c)) {
		t.Errorf("Read(%d): %v, %d; want %d all over", no, b, e, c)
	}
}

// laid wants the laid sectors to be these bytes, each all over its sector.
func laid(t *testing.T, d *Disk, want ...byte) {
	t.Helper()
	var all []byte
	for _, c := range want {
		all = append(all, full(c)...)
	}
	if got := d.Laid(); !bytes.Equal(got, all) {
		t.Errorf("Laid: %v; want sectors of %v", got, want)
	}
}

// counts wants a disk to tell these numbers.
func counts(t *testing.T, d *Disk, waits, writes, flushes int) {
	t.Helper()
	if d.Waiting() != waits || d.Writes() != writes || d.Flushes() != flushes {
		t.Errorf("%d wait, %d writes, %d flushes; want %d, %d, %d",
			d.Waiting(), d.Writes(), d.Flushes(), waits, writes, flushes)
	}
}

// errs wants an error.
func errs(t *testing.T, what string, got, want api.Errno) {
	t.Helper()
	if got != want {
		t.Errorf("%s: %d; want %d", what, got, want)
	}
}

// P1.1: how many sectors a disk may have, and what a new one is.
func TestNew(t *testing.T) {
	for _, n := range []int{1, 2, api.MaxSectors} {
		d := fresh(t, n)
		if d.Sectors() != n || !d.On() || !bytes.Equal(d.Laid(), make([]byte, n*api.SectorSize)) {
			t.Errorf("New(%d): %d sectors, on: %v", n, d.Sectors(), d.On())
		}
		counts(t, d, 0, 0, 0)
		reads(t, d, 0, 0)
		reads(t, d, n-1, 0)
	}
	for _, n := range []int{0, -1, api.MaxSectors + 1, math.MaxInt, math.MinInt} {
		if d, e := New(n); d != nil || e != api.ErrArg {
			t.Errorf("New(%d): %v, %d; want nil, %d", n, d, e, api.ErrArg)
		}
	}
}

// P1.1: what was written last is read, waiting or not, and isn't laid yet.
func TestWriteWaits(t *testing.T) {
	d := fresh(t, 3)
	write(t, d, 1, 0, 2)
	reads(t, d, 0, 1)
	reads(t, d, 1, 0)
	reads(t, d, 2, 1)
	write(t, d, 2, 0)
	reads(t, d, 0, 2)
	laid(t, d, 0, 0, 0)
	counts(t, d, 3, 3, 0)
	errs(t, "Flush", d.Flush(), api.OK)
	reads(t, d, 0, 2)
	write(t, d, 3, 0)
	reads(t, d, 0, 3)
	laid(t, d, 2, 0, 1)
}

// P1.1: what is no sector, and what are no sector's bytes.
func TestWrongArguments(t *testing.T) {
	d := fresh(t, 2)
	for _, no := range []int{-1, 2, math.MaxInt, math.MinInt, 1 << 57} {
		errs(t, "Write of no sector", d.Write(no, full(1)), api.ErrArg)
		if b, e := d.Read(no); b != nil || e != api.ErrArg {
			t.Errorf("Read(%d): %v, %d", no, b, e)
		}
	}
	for _, n := range []int{0, 1, 63, 65, 128} {
		errs(t, "Write of other bytes", d.Write(0, make([]byte, n)), api.ErrArg)
	}
	errs(t, "Write of nil", d.Write(0, nil), api.ErrArg)
	counts(t, d, 0, 0, 0)
}

// P1.1, P1: an error named first is the answer, and uses nothing up.
func TestOrderOfErrors(t *testing.T) {
	d := fresh(t, 1)
	d.Arm(0)
	errs(t, "wrong Write, nothing left", d.Write(1, full(1)), api.ErrArg)
	errs(t, "short Write, nothing left", d.Write(0, full(1)[1:]), api.ErrArg)
	if !d.On() {
		t.Error("a write that is refused for its arguments turns the power off")
	}
	d.Arm(1)
	errs(t, "wrong Write, one left", d.Write(-1, full(1)), api.ErrArg)
	errs(t, "Write, one left", d.Write(0, full(1)), api.OK)
	errs(t, "Write, nothing left", d.Write(0, full(1)), api.ErrDown)
	errs(t, "wrong Write, no power", d.Write(1, nil), api.ErrDown)
	if b, e := d.Read(1); b != nil || e != api.ErrDown {
		t.Errorf("Read of no sector, no power: %v, %d", b, e)
	}
}

// P1.1, P1.2: an armed disk counts writes and flushes together, not reads.
func TestArmed(t *testing.T) {
	d := fresh(t, 2)
	d.Arm(3)
	write(t, d, 1, 0)
	reads(t, d, 0, 1)
	errs(t, "Flush", d.Flush(), api.OK)
	reads(t, d, 1, 0)
	write(t, d, 2, 1)
	reads(t, d, 1, 2)
	if !d.On() {
		t.Error("the power is off, though nothing was asked for behind the last one left")
	}
	errs(t, "fourth", d.Write(0, full(3)), api.ErrDown)
	if b, e := d.Read(0); b != nil || e != api.ErrDown || d.On() {
		t.Errorf("Read behind it: %v, %d, on: %v", b, e, d.On())
	}
	laid(t, d, 1, 0)
	counts(t, d, 1, 2, 1)
	errs(t, "Flush, no power", d.Flush(), api.ErrDown)
	counts(t, d, 1, 2, 1)
	if n := d.Crash(0); n != 1 {
		t.Errorf("Crash: %d", n)
	}
	laid(t, d, 1, 2)
}

// P1.2: a flush that has nothing left isn't done; what waits waits on.
func TestArmedFlush(t *testing.T) {
	d := fresh(t, 1)
	write(t, d, 1, 0)
	d.Arm(0)
	errs(t, "Flush", d.Flush(), api.ErrDown)
	if d.On() {
		t.Error("the power is on")
	}
	laid(t, d, 0)
	counts(t, d, 1, 1, 0)
	d.Power()
	counts(t, d, 0, 1, 0)
	reads(t, d, 0, 0)
	errs(t, "Flush behind Power", d.Flush(), api.OK)
	counts(t, d, 0, 1, 1)
}

// P1.2: below 0 a disk isn't armed, and arming again replaces what was left.
func TestArmAgain(t *testing.T) {
	for _, n := range []int{-1, math.MinInt} {
		d := fresh(t, 1)
		d.Arm(1)
		d.Arm(n)
		for range 5 {
			write(t, d, 1, 0)
		}
		errs(t, "Flush", d.Flush(), api.OK)
	}
	d := fresh(t, 1)
	d.Arm(0)
	d.Arm(2)
	write(t, d, 1, 0, 0)
	errs(t, "third", d.Write(0, full(1)), api.ErrDown)
	d.Arm(5)
	errs(t, "armed without power", d.Write(0, full(1)), api.ErrDown)
	d.Power()
	write(t, d, 1, 0, 0, 0, 0, 0, 0, 0)
	d.Arm(math.MaxInt)
	write(t, d, 1, 0)
}

// P1.2: a flush lays in order, so that the last of two writes holds.
func TestFlush(t *testing.T) {
	d := fresh(t, 3)
	write(t, d, 1, 0, 1)
	write(t, d, 2, 1)
	errs(t, "Flush", d.Flush(), api.OK)
	laid(t, d, 1, 2, 0)
	counts(t, d, 0, 3, 1)
	errs(t, "Flush of nothing", d.Flush(), api.OK)
	counts(t, d, 0, 3, 2)
	laid(t, d, 1, 2, 0)
}

// P1.2: the chapter's example, and other choices of what a crash keeps.
func TestCrash(t *testing.T) {
	cases := []struct {
		keep []int
		laid int
		want []byte
	}{
		{[]int{0, 2}, 2, []byte{1, 3}},
		{nil, 0, []byte{0, 0}},
		{[]int{0}, 1, []byte{1, 0}},
		{[]int{1}, 1, []byte{2, 0}},
		{[]int{2}, 1, []byte{0, 3}},
		{[]int{0, 1}, 2, []byte{2, 0}},
		{[]int{1, 0}, 2, []byte{2, 0}},
		{[]int{2, 1, 0}, 3, []byte{2, 3}},
		{[]int{1, 1, 1}, 1, []byte{2, 0}},
		{[]int{3, -1, math.MaxInt, math.MinInt}, 0, []byte{0, 0}},
		{[]int{9, 2, -5, 2, 0}, 2, []byte{1, 3}},
	}
	for _, c := range cases {
		d := fresh(t, 2)
		write(t, d, 1, 0)
		write(t, d, 2, 0)
		write(t, d, 3, 1)
		given := slices.Clone(c.keep)
		if n := d.Crash(given...); n != c.laid {
			t.Errorf("Crash(%v): %d; want %d", c.keep, n, c.laid)
		}
		if !slices.Equal(given, c.keep) {
			t.Errorf("Crash(%v) changes what it is told to %v", c.keep, given)
		}
		if d.On() {
			t.Errorf("Crash(%v): the power is on", c.keep)
		}
		laid(t, d, c.want...)
		counts(t, d, 0, 3, 0)
		d.Power()
		reads(t, d, 0, c.want[0])
		reads(t, d, 1, c.want[1])
	}
}

// P1.2: nothing waits behind a crash, so a second one lays nothing.
func TestCrashTwice(t *testing.T) {
	d := fresh(t, 1)
	write(t, d, 1, 0)
	if n := d.Crash(); n != 0 {
		t.Errorf("Crash: %d", n)
	}
	if n := d.Crash(0); n != 0 {
		t.Errorf("Crash again: %d", n)
	}
	laid(t, d, 0)
	errs(t, "Write behind it", d.Write(0, full(2)), api.ErrDown)
	errs(t, "Flush behind it", d.Flush(), api.ErrDown)
	counts(t, d, 0, 1, 0)
}

// P1.2: Power loses what waited, be the power off or on.
func TestPower(t *testing.T) {
	d := fresh(t, 1)
	write(t, d, 1, 0)
	errs(t, "Flush", d.Flush(), api.OK)
	write(t, d, 2, 0)
	d.Arm(0)
	d.Power()
	if !d.On() {
		t.Error("the power is off")
	}
	reads(t, d, 0, 1)
	counts(t, d, 0, 2, 1)
	write(t, d, 3, 0)
	errs(t, "Flush", d.Flush(), api.OK)
	laid(t, d, 3)
}

// P1.3: a copy is the same in all that it tells, and is one of its own.
func TestCopy(t *testing.T) {
	d := fresh(t, 2)
	write(t, d, 1, 0)
	errs(t, "Flush", d.Flush(), api.OK)
	write(t, d, 2, 0, 1)
	d.Arm(1)
	c := d.Copy()
	if c.Sectors() != 2 || !c.On() {
		t.Errorf("%d sectors, on: %v", c.Sectors(), c.On())
	}
	counts(t, c, 2, 3, 1)
	laid(t, c, 1, 0)
	reads(t, c, 0, 2)
	write(t, c, 5, 0)
	errs(t, "a copy is armed, too: Flush", c.Flush(), api.ErrDown)
	counts(t, d, 2, 3, 1)
	reads(t, d, 0, 2)
	errs(t, "Flush", d.Flush(), api.OK)
	laid(t, d, 2, 2)
	laid(t, c, 1, 0)
	counts(t, c, 3, 4, 1)
	if c.Copy().On() || c.Copy().Waiting() != 3 {
		t.Error("a copy of one without power has power, or loses what waits")
	}
	c.Crash(2)
	laid(t, c, 5, 0)
	laid(t, d, 2, 2)
}

// P1.3: what is written to a disk behind a copying isn't the copy's, nor the
// other way round, however many writes wait.
func TestCopyWritesApart(t *testing.T) {
	for n := range 9 {
		d := fresh(t, 1)
		for range n {
			write(t, d, 1, 0)
		}
		c := d.Copy()
		write(t, d, 2, 0)
		write(t, c, 3, 0)
		reads(t, d, 0, 2)
		reads(t, c, 0, 3)
	}
}

// P1.4: behind a flush a crash changes nothing, whatever it is told.
func TestCrashBehindFlush(t *testing.T) {
	d := fresh(t, 2)
	write(t, d, 1, 0, 1)
	errs(t, "Flush", d.Flush(), api.OK)
	if n := d.Crash(0, 1, 2); n != 0 {
		t.Errorf("Crash: %d", n)
	}
	laid(t, d, 1, 1)
}

// P1.4: bytes are neither kept nor shared, on no side.
func TestBytesAreNew(t *testing.T) {
	d := fresh(t, 1)
	b := full(1)
	errs(t, "Write", d.Write(0, b), api.OK)
	b[0] = 9
	reads(t, d, 0, 1)
	for range 2 { // waiting, and then laid
		got, _ := d.Read(0)
		got[0] = 9
		reads(t, d, 0, 1)
		errs(t, "Flush", d.Flush(), api.OK)
	}
	all := d.Laid()
	all[0] = 9
	laid(t, d, 1)
	if !bytes.Equal(b[1:], full(1)[1:]) {
		t.Error("what is handed in is changed")
	}
}

// P1.4, P1: a nil disk, and one that New didn't make, have nothing to lose.
func TestNilDisk(t *testing.T) {
	for _, d := range []*Disk{nil, {}} {
		errs(t, "Write", d.Write(0, full(1)), api.ErrDown)
		errs(t, "wrong Write", d.Write(-1, nil), api.ErrDown)
		if b, e := d.Read(0); b != nil || e != api.ErrDown {
			t.Errorf("Read: %v, %d", b, e)
		}
		errs(t, "Flush", d.Flush(), api.ErrDown)
		if n := d.Crash(0, 1, -1); n != 0 {
			t.Errorf("Crash: %d", n)
		}
		d.Arm(3)
		d.Arm(-3)
		if d.On() || d.Sectors() != 0 || len(d.Laid()) != 0 {
			t.Errorf("on: %v, %d sectors, laid %v", d.On(), d.Sectors(), d.Laid())
		}
		counts(t, d, 0, 0, 0)
	}
	var d *Disk
	d.Power()
	if d.On() || d.Laid() != nil || d.Copy() != nil {
		t.Errorf("nil: on: %v, laid %v, copy %v", d.On(), d.Laid(), d.Copy())
	}
	bare := &Disk{}
	bare.Power()
	errs(t, "Write to no sectors", bare.Write(0, full(1)), api.ErrArg)
}
