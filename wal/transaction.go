package wal

import (
	"bytes"

	"creel/api"
	"creel/digest"
)

// How many bytes numbers have.
const (
	long  = 8 // a transaction's number
	short = 4 // all others
)

// transaction is writes to unlike data sectors, with a number.
type transaction struct {
	number int
	writes []Write
}

// digest is what binds the journal's notes to all writes and their order.
func (t transaction) digest() [32]byte {
	texts := [][]byte{inBytes(t.number, long), inBytes(len(t.writes), short)}
	for _, w := range t.writes {
		texts = append(texts, inBytes(w.No, short), w.B)
	}
	return digest.Framed(texts...)
}

// note is the sector that the journal has ahead of a write's bytes. The digest
// is handed in since all notes of a transaction have the same.
func (t transaction) note(place int, sum [32]byte) []byte {
	return sector(
		inBytes(t.number, long),
		inBytes(place, short),
		inBytes(len(t.writes), short),
		inBytes(t.writes[place].No, short),
		sum[:],
	)
}

// noted answers the number, how many writes there are, and the sector, of the
// transaction whose note this may be.
func noted(note []byte) (no uint64, count, to int) {
	no, rest := fromBytes(note[:long]), note[long:]
	return no, int(fromBytes(rest[short : 2*short])), int(fromBytes(rest[2*short : 3*short]))
}

// head is the sector that tells the number of the last transaction done.
func head(done int) []byte {
	told := inBytes(done, long)
	sum := digest.Framed(told)
	return sector(told, sum[:])
}

// doneBy answers the number that a head tells, if the head is right.
func doneBy(b []byte) (int, bool) {
	if bytes.Equal(b, sector()) {
		return 0, true
	}
	told := fromBytes(b[:long])
	if told > highest || !bytes.Equal(b, head(int(told))) {
		return 0, false
	}
	return int(told), true
}

// sector is one that has these parts, and bytes 0 behind them.
func sector(parts ...[]byte) []byte {
	b := make([]byte, api.SectorSize)
	copy(b, bytes.Join(parts, nil))
	return b
}

// inBytes is a number as so many bytes, the highest one first.
func inBytes(n, size int) []byte {
	b := make([]byte, size)
	for i := range b {
		b[size-1-i] = byte(n >> (8 * i))
	}
	return b
}

// fromBytes is the number that bytes are, the highest one first.
func fromBytes(b []byte) uint64 {
	n := uint64(0)
	for _, x := range b {
		n = n<<8 | uint64(x)
	}
	return n
}
