package wal

import (
	"bytes"

	"creel/api"
	"creel/sector"
)

// recovered recovers a log, which is done once for it.
func (l *Log) recovered() (e api.Errno) {
	l.once.Do(func() { e = l.mend() })
	return e
}

// mend does the transaction that the journal has whole, or makes sure that one
// that is there in part never becomes whole.
func (l *Log) mend() api.Errno {
	told, e := l.disk.Read(headAt)
	if e != api.OK {
		return e
	}
	done, right := doneBy(told)
	if !right {
		return api.ErrSum
	}
	l.done = done
	t, e := l.disk.begun(done + 1)
	switch e {
	case api.OK:
		l.redone = true
		return l.finish(t)
	case api.ErrNone:
		return api.OK
	case api.ErrEnd:
		return l.disk.lay(Write{No: l.disk.noteAt(0), B: sector.Of()})
	}
	return e
}

// begun answers the transaction of that number that the journal begins with:
// ErrNone, if it begins with another one or none, ErrEnd, if it isn't whole.
func (d layout) begun(number int) (transaction, api.Errno) {
	first, e := d.Read(d.noteAt(0))
	if e != api.OK {
		return transaction{}, e
	}
	no, count, _ := noted(first)
	switch {
	case no != uint64(number):
		return transaction{}, api.ErrNone
	case number > highest || count < 1 || count > d.most():
		return transaction{}, api.ErrEnd
	}
	t, notes, e := d.gathered(number, count)
	switch {
	case e != api.OK:
		return transaction{}, e
	case len(notes) < count || !t.is(notes):
		return transaction{}, api.ErrEnd
	}
	return t, api.OK
}

// gathered answers the writes that the journal has of a transaction, and their
// notes, up to the first place that has none.
func (d layout) gathered(number, count int) (transaction, [][]byte, api.Errno) {
	t := transaction{number: number}
	var notes [][]byte
looking:
	for place := range count {
		at := d.noteAt(place)
		note, e := d.Read(at)
		if e != api.OK {
			return transaction{}, nil, e
		}
		no, many, to := noted(note)
		if no != uint64(number) || many != count || !d.has(to) {
			break looking
		}
		b, e := d.Read(at + 1)
		if e != api.OK {
			return transaction{}, nil, e
		}
		t.writes = append(t.writes, Write{No: to, B: b})
		notes = append(notes, note)
	}
	return t, notes, api.OK
}

// is tells whether these are a transaction's notes, each as a commit writes
// it: then all that they say of themselves and of the writes holds.
func (t transaction) is(notes [][]byte) bool {
	if Check(t.writes...) != api.OK {
		return false
	}
	sum := t.digest()
	for place, note := range notes {
		if !bytes.Equal(note, t.note(place, sum)) {
			return false
		}
	}
	return true
}
