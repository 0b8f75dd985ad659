package tree

import (
	"slices"
	"strings"

	"creel/api"
	"creel/codec"
	"creel/inode"
	"creel/mode"
	"creel/path"
)

// mostBytes are the bytes that a node may have.
const mostBytes = 512

// place is a node, and its number.
type place struct {
	inode.Node
	no int
}

// entry is a name in a directory, and the number of the node that stands there.
type entry struct {
	name string
	no   int
}

// directory is a directory's place, and its names, rising. They count, and not
// the bytes of its node.
type directory struct {
	place
	names []entry
}

// Where the parts of an entry stand in the list that a directory's bytes have
// of it, and how many there are.
const (
	nameAt = iota
	noAt
	parts
)

// shown answers a place's node as it is told: a directory without bytes.
func (x place) shown() inode.Node {
	if x.Stat.Kind == mode.Dir {
		x.Data = nil
	}
	return x.Node
}

// directory answers the directory that a place is.
func (x place) directory() (directory, api.Errno) {
	if x.Stat.Kind != mode.Dir {
		return directory{}, api.ErrType
	}
	v, e := codec.Decode(x.Data)
	if e != api.OK || v.Kind != codec.List {
		return directory{}, api.ErrForm
	}
	d := directory{place: x}
	for i, one := range v.L {
		n, right := entryOf(one)
		if !right || i > 0 && d.names[i-1].name >= n.name {
			return directory{}, api.ErrForm
		}
		d.names = append(d.names, n)
	}
	return d, api.OK
}

// entryOf answers the entry that a value is, if it is one.
func entryOf(v codec.Value) (entry, bool) {
	if v.Kind != codec.List || len(v.L) != parts {
		return entry{}, false
	}
	name, no := v.L[nameAt], v.L[noAt]
	if name.Kind != codec.Bytes || no.Kind != codec.Number || !path.Name(string(name.B)) {
		return entry{}, false
	}
	return entry{name: string(name.B), no: no.N}, true
}

// written answers a directory's place, with the names as bytes.
func (d directory) written() place {
	var l []codec.Value
	for _, x := range d.names {
		l = append(l, codec.Of(codec.Text(x.name), codec.Int(x.no)))
	}
	// So few names, a node's and one more at most, can always be encoded.
	d.Data, _ = codec.Encode(codec.Of(l...))
	return d.place
}

// find answers where a name stands among the others, or would, and whether it
// is there.
func (d directory) find(name string) (int, bool) {
	return slices.BinarySearchFunc(d.names, name, func(x entry, name string) int { return strings.Compare(x.name, name) })
}

// with answers a directory's place, with one name more, that isn't there yet.
func (d directory) with(name string, no int) (place, api.Errno) {
	at, _ := d.find(name)
	d.names = slices.Insert(slices.Clone(d.names), at, entry{name: name, no: no})
	x := d.written()
	if len(x.Data) > mostBytes {
		return place{}, api.ErrFull
	}
	return x, api.OK
}

// without answers a directory with one name less.
func (d directory) without(name string) directory {
	d.names = slices.DeleteFunc(slices.Clone(d.names), func(x entry) bool { return x.name == name })
	return d
}
