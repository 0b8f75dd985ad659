package wal

import (
	"slices"

	"creel/api"
	"creel/block"
)

// The bounds of how many sectors a journal has.
const (
	leastJournal = 2
	mostJournal  = 1024
)

// headAt is where the head is; behind it is the journal, and behind that the
// data.
const headAt = 0

// layout is a disk whose sectors are shared out to a head, a journal of so
// many, and data.
type layout struct {
	*block.Disk
	journal int
}

// fits tells whether the journal is as it must be, and leaves a data sector.
func (d layout) fits() bool {
	return d.journal >= leastJournal && d.journal <= mostJournal && d.journal%2 == 0 && d.data() > 0
}

// data tells how many data sectors there are.
func (d layout) data() int { return max(d.Sectors()-d.journal-1, 0) }

// most tells how many writes the journal has room for.
func (d layout) most() int { return d.journal / 2 }

// has tells whether there is a data sector of that number.
func (d layout) has(no int) bool { return no >= 0 && no < d.data() }

// hasAll tells whether all sectors that are written are there.
func (d layout) hasAll(w []Write) bool {
	return !slices.ContainsFunc(w, func(x Write) bool { return !d.has(x.No) })
}

// dataAt is where a data sector is.
func (d layout) dataAt(no int) int { return headAt + 1 + d.journal + no }

// noteAt is where the journal has a write's note; behind it are its bytes.
func (d layout) noteAt(place int) int { return headAt + 1 + 2*place }

// inJournal answers what a transaction writes to the journal, from its front
// on.
func (d layout) inJournal(t transaction) []Write {
	var l []Write
	sum := t.digest()
	for place, w := range t.writes {
		at := d.noteAt(place)
		l = append(l, Write{No: at, B: t.note(place, sum)}, Write{No: at + 1, B: w.B})
	}
	return l
}

// inData answers what a transaction writes to the data.
func (d layout) inData(t transaction) []Write {
	var l []Write
	for _, w := range t.writes {
		l = append(l, Write{No: d.dataAt(w.No), B: w.B})
	}
	return l
}

// lay writes sectors of the disk, in order, and flushes them.
func (d layout) lay(l ...Write) api.Errno {
	for _, w := range l {
		if e := d.Write(w.No, w.B); e != api.OK {
			return e
		}
	}
	return d.Flush()
}
