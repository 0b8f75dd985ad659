package store

import (
	"slices"

	"creel/codec"
	"creel/digest"
	"creel/path"
)

// A connection's key begins with a letter of its own, and has so many signs of a
// digest behind it.
const (
	keyBegins = "c"
	keySigns  = 16
)

// Conn is a connection: its ends are a package and a name each.
type Conn struct {
	Plug, Slot [2]string
	Interface  string
}

// Right tells whether all five texts of a connection are names.
func Right(c Conn) bool {
	l := texts(c)
	return !slices.ContainsFunc(l[:], func(s string) bool { return !path.Name(s) })
}

// Key answers the key under which a connection stands. It is of both ends, and
// not of the interface.
func Key(c Conn) string {
	of := func(i int) []byte { return []byte(texts(c)[i]) }
	return keyBegins + digest.Hex(digest.Framed(of(0), of(1), of(2), of(3)))[:keySigns]
}

// texts are a connection's, in the order in which they stand in its value.
func texts(c Conn) [5]string {
	return [...]string{c.Plug[0], c.Plug[1], c.Slot[0], c.Slot[1], c.Interface}
}

// connValue is what stands under a connection's key.
func connValue(c Conn) codec.Value {
	var l []codec.Value
	for _, text := range texts(c) {
		l = append(l, codec.Text(text))
	}
	return codec.Of(l...)
}

// connOf is the connection that stands as a value under a key, if it is a right
// one, and its key is that.
func connOf(key string, v codec.Value) (Conn, bool) {
	if !listed(v, codec.Bytes, codec.Bytes, codec.Bytes, codec.Bytes, codec.Bytes) {
		return Conn{}, false
	}
	text := func(i int) string { return string(v.L[i].B) }
	c := Conn{Plug: [2]string{text(0), text(1)}, Slot: [2]string{text(2), text(3)}, Interface: text(4)}
	return c, Right(c) && Key(c) == key
}
