package chain

import (
	"strconv"

	"creel/digest"
	"creel/sector"
)

// A record's key begins with a letter of its own, and has a number of so many
// digits behind it: of those below keyRoom.
const (
	keyBegins = "r"
	keyRoom   = 1000000
)

const (
	markSize   = 32
	numberSize = 8
)

// Start answers the mark of no records.
func Start() [32]byte { return digest.Of([]byte("chain")) }

// Mark answers the mark behind a record: that of all records up to it.
func Mark(ahead [32]byte, no int, b []byte) [32]byte {
	return digest.Framed(ahead[:], sector.Bytes(no, numberSize), b)
}

// Marks answers the marks behind each of these records, the first of which is
// number 0.
func Marks(l ...[]byte) [][32]byte {
	var marks [][32]byte
	n := start()
	for _, b := range l {
		n.move(n.behind(b))
		marks = append(marks, n.mark)
	}
	return marks
}

// Key answers the key of the record of that number; the empty text, if it has
// none.
func Key(no int) string {
	if no < 0 || no >= keyRoom {
		return ""
	}
	return keyBegins + strconv.Itoa(keyRoom + no)[1:]
}

// end is what the next record is bound to.
type end struct {
	no   int // of the next record: so many are ahead of it
	mark [markSize]byte
}

// start is the end of no records.
func start() end { return end{mark: Start()} }

// key is the next record's.
func (n *end) key() string { return Key(n.no) }

// behind is the mark that the next record has, if these are its bytes.
func (n *end) behind(b []byte) [markSize]byte { return Mark(n.mark, n.no, b) }

// move goes on behind the next record, whose mark that is.
func (n *end) move(mark [markSize]byte) {
	n.no++
	n.mark = mark
}
