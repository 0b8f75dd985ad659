package wal

import (
	"bytes"

	"creel/digest"
	"creel/sector"
)

// How many bytes numbers have.
const (
	long  = 8 // a transaction's number
	short = 4 // all others
)

// transaction is writes to unlike data sectors, with a number.
type transaction struct {
	number int
	writes []Write
}

// digest is what binds the journal's notes to all writes and their order.
func (t transaction) digest() [32]byte {
	texts := [][]byte{sector.Bytes(t.number, long), sector.Bytes(len(t.writes), short)}
	for _, w := range t.writes {
		texts = append(texts, sector.Bytes(w.No, short), w.B)
	}
	return digest.Framed(texts...)
}

// note is the sector that the journal has ahead of a write's bytes. The digest
// is handed in since all notes of a transaction have the same.
func (t transaction) note(place int, sum [32]byte) []byte {
	return sector.Of(
		sector.Bytes(t.number, long),
		sector.Bytes(place, short),
		sector.Bytes(len(t.writes), short),
		sector.Bytes(t.writes[place].No, short),
		sum[:],
	)
}

// noted answers the number, how many writes there are, and the sector, of the
// transaction whose note this may be.
func noted(note []byte) (no uint64, count, to int) {
	no, rest := sector.Number(note[:long]), note[long:]
	return no, int(sector.Number(rest[short : 2*short])), int(sector.Number(rest[2*short : 3*short]))
}

// head is the sector that tells the number of the last transaction done.
func head(done int) []byte {
	told := sector.Bytes(done, long)
	sum := digest.Framed(told)
	return sector.Of(told, sum[:])
}

// doneBy answers the number that a head tells, if the head is right.
func doneBy(b []byte) (int, bool) {
	if bytes.Equal(b, sector.Of()) {
		return 0, true
	}
	told := sector.Number(b[:long])
	if told > highest || !bytes.Equal(b, head(int(told))) {
		return 0, false
	}
	return int(told), true
}
