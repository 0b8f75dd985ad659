// Package block is layer 1: a disk whose writes wait in a cache, and that
// crashes. See shared/doc/01-block.md.
package block

import (
	"bytes"
	"slices"
	"sync/atomic"

	"creel/api"
)

// waiting is a write that isn't laid yet.
type waiting struct {
	no    int
	bytes [api.SectorSize]byte
}

// Disk is a device. The zero Disk has no sectors, and its power is off.
type Disk struct {
	power
	laid            []byte
	waits           []waiting
	writes, flushes atomic.Int64
}

// New answers a disk of so many sectors, all 0, with its power on.
func New(sectors int) (*Disk, api.Errno) {
	if sectors < 1 || sectors > api.MaxSectors {
		return nil, api.ErrArg
	}
	d := &Disk{laid: make([]byte, sectors*api.SectorSize)}
	d.restore()
	return d, api.OK
}

// Write lets a sector's bytes wait for the next flush.
func (d *Disk) Write(no int, b []byte) api.Errno {
	if !d.On() {
		return api.ErrDown
	}
	if !d.has(no) || len(b) != api.SectorSize {
		return api.ErrArg
	}
	// A write that is refused for its arguments uses nothing up: only here
	// is it known that one is asked for.
	if !d.spend() {
		return api.ErrDown
	}
	d.waits = append(d.waits, waiting{no, [api.SectorSize]byte(b)})
	d.writes.Add(1)
	return api.OK
}

// Read answers a sector's bytes as they were written last, waiting or laid.
func (d *Disk) Read(no int) ([]byte, api.Errno) {
	if !d.On() {
		return nil, api.ErrDown
	}
	if !d.has(no) {
		return nil, api.ErrArg
	}
	seen := d.sector(no)
looking:
	for place := len(d.waits) - 1; place >= 0; place-- {
		if w := &d.waits[place]; w.no == no {
			seen = w.bytes[:]
			break looking
		}
	}
	return bytes.Clone(seen), api.OK
}

// Flush lays all waiting writes, in order.
func (d *Disk) Flush() api.Errno {
	if !d.On() || !d.spend() {
		return api.ErrDown
	}
	for i := range d.waits {
		d.lay(&d.waits[i])
	}
	d.waits = nil
	d.flushes.Add(1)
	return api.OK
}

// Crash lays those waiting writes whose places are told, loses all others,
// and turns the power off; it answers how many were laid.
func (d *Disk) Crash(keep ...int) int {
	if d == nil {
		return 0
	}
	laid := d.layKept(keep)
	d.waits = nil
	d.cut()
	return laid
}

// layKept lays in the order of the writes, not in that of keep: a sorted copy
// is gone through beside them, so that a place that is told twice, or isn't
// there, counts for nothing.
func (d *Disk) layKept(keep []int) int {
	told := slices.Clone(keep)
	slices.Sort(told)
	laid := 0
laying:
	for place := range d.waits {
		for len(told) > 0 && told[0] < place {
			told = told[1:]
		}
		switch {
		case len(told) == 0:
			break laying
		case told[0] != place:
			continue laying
		}
		d.lay(&d.waits[place])
		laid++
	}
	return laid
}

// Power turns the power on, for good; what waited is lost.
func (d *Disk) Power() {
	if d == nil {
		return
	}
	d.waits = nil
	d.restore()
}

// Arm leaves n writes and flushes, ahead of the power going; below 0 the
// disk isn't armed.
func (d *Disk) Arm(n int) {
	if d != nil {
		d.arm(n)
	}
}

// On tells whether the power is on.
func (d *Disk) On() bool { return d != nil && d.on }

// Waiting tells how many writes wait.
func (d *Disk) Waiting() int {
	if d == nil {
		return 0
	}
	return len(d.waits)
}

// Sectors tells how many there are.
func (d *Disk) Sectors() int {
	if d == nil {
		return 0
	}
	return len(d.laid) / api.SectorSize
}

// Writes tells how many writes were done, laid or lost.
func (d *Disk) Writes() int {
	if d == nil {
		return 0
	}
	return int(d.writes.Load())
}

// Flushes tells how many flushes were done.
func (d *Disk) Flushes() int {
	if d == nil {
		return 0
	}
	return int(d.flushes.Load())
}

// Laid answers all bytes that are laid, without the waiting ones.
func (d *Disk) Laid() []byte {
	if d == nil {
		return nil
	}
	return bytes.Clone(d.laid)
}

// Copy answers a disk of its own that is the same, its power, what it is
// armed with, what waits and its counts, too.
func (d *Disk) Copy() *Disk {
	if d == nil {
		return nil
	}
	c := &Disk{power: d.power, laid: bytes.Clone(d.laid), waits: slices.Clone(d.waits)}
	c.writes.Store(d.writes.Load())
	c.flushes.Store(d.flushes.Load())
	return c
}

// has tells whether there is a sector of that number.
func (d *Disk) has(no int) bool { return no >= 0 && no < d.Sectors() }

// sector is a sector's laid bytes, for inner use alone: it is shared.
func (d *Disk) sector(no int) []byte {
	return d.laid[no*api.SectorSize : (no+1)*api.SectorSize]
}

// lay brings a waiting write to its sector.
func (d *Disk) lay(w *waiting) { copy(d.sector(w.no), w.bytes[:]) }
