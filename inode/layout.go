package inode

import (
	"bytes"
	"slices"

	"creel/api"
	"creel/digest"
	"creel/mode"
	"creel/sector"
	"creel/wal"
)

// name is what a table's front begins with.
const name = "CREEL"

// How many bytes numbers have.
const (
	long  = 8 // a stat's
	short = 4 // all others
)

// Where the parts of a node's sector begin.
const (
	statAt   = 1
	sizeAt   = statAt + long
	blocksAt = sizeAt + short
)

// inUse is the first byte of a node's sector, if it isn't free; a free one's
// has bytes 0 alone.
const inUse = 1

// mostBytes are the bytes that a node may have.
const mostBytes = 512

// frontAt is where the front is; behind it are the nodes' sectors, and behind
// them the blocks.
const frontAt = 0

// layout is a log whose data sectors are shared out to a front, so many nodes,
// and blocks.
type layout struct {
	*wal.Log
	nodes int
}

// held is a node that isn't free, and the blocks that have its bytes.
type held struct {
	Node
	blocks []int
}

// copied answers the node in memory of its own; no bytes are always nil.
func (n Node) copied() Node {
	return Node{Stat: n.Stat, Data: append([]byte(nil), n.Data...)}
}

// fits tells whether there may be so many nodes, and the log has sectors for
// them and for a block.
func (d layout) fits() bool {
	return d.nodes >= 1 && d.nodes <= api.MaxNodes && d.blocks() > 0
}

// blocks tells how many blocks there are.
func (d layout) blocks() int { return max(d.Sectors()-d.nodes-1, 0) }

// has tells whether there is a node of that number.
func (d layout) has(no int) bool { return no >= 0 && no < d.nodes }

// nodeAt is where a node's sector is.
func (d layout) nodeAt(no int) int { return frontAt + 1 + no }

// blockAt is where a block is.
func (d layout) blockAt(no int) int { return frontAt + 1 + d.nodes + no }

// isBlank tells whether a data sector has bytes 0 alone.
func (d layout) isBlank(no int) (bool, api.Errno) {
	b, e := d.Read(no)
	return e == api.OK && bytes.Equal(b, sector.Of()), e
}

// begin lays a table without nodes. Whatever is in the nodes' sectors goes, in
// as many transactions as it takes; the front comes last, so that there is no
// table till then.
func (d layout) begin() api.Errno {
	var l []wal.Write
	for no := range d.nodes {
		at := d.nodeAt(no)
		free, e := d.isBlank(at)
		switch {
		case e != api.OK:
			return e
		case !free:
			l = append(l, wal.Write{No: at, B: sector.Of()})
		}
	}
	l = append(l, wal.Write{No: frontAt, B: front(d.nodes)})
	for part := range slices.Chunk(l, d.Most()) {
		if e := d.Commit(part...); e != api.OK {
			return e
		}
	}
	return api.OK
}

// front is the sector that tells how many nodes there are.
func front(nodes int) []byte {
	begins, many := []byte(name), sector.Bytes(nodes, short)
	sum := digest.Framed(begins, many)
	return sector.Of(begins, many, sum[:])
}

// nodesBy answers how many nodes a front tells, if it is one.
func nodesBy(b []byte) (int, bool) {
	nodes := int(sector.Number(b[len(name):][:short]))
	if !bytes.Equal(b, front(nodes)) {
		return 0, false
	}
	return nodes, true
}

// note is the sector of a node that isn't free.
func (n held) note() []byte {
	parts := [][]byte{{inUse}, sector.Bytes(mode.Number(n.Stat), long), sector.Bytes(len(n.Data), short)}
	for _, no := range n.blocks {
		parts = append(parts, sector.Bytes(no, short))
	}
	return sector.Of(parts...)
}

// load answers the nodes that aren't free.
func (d layout) load() (map[int]held, api.Errno) {
	used, owned := map[int]held{}, make([]bool, d.blocks())
	for no := range d.nodes {
		b, e := d.Read(d.nodeAt(no))
		switch {
		case e != api.OK:
			return nil, e
		case bytes.Equal(b, sector.Of()):
			continue
		}
		n, e := d.noted(b, owned)
		if e != api.OK {
			return nil, e
		}
		used[no] = n
	}
	return used, api.OK
}

// noted answers the node whose sector it is, if it is one. The blocks that it
// has must be there, and not be owned; they are from now on.
func (d layout) noted(b []byte, owned []bool) (held, api.Errno) {
	stat, e := mode.Of(int(sector.Number(b[statAt:sizeAt])))
	size := int(sector.Number(b[sizeAt:blocksAt]))
	if e != api.OK || size > mostBytes {
		return held{}, api.ErrForm
	}
	n := held{Node: Node{Stat: stat}}
	for i := range Blocks(size) {
		no := int(sector.Number(b[blocksAt+i*short:][:short]))
		if no >= len(owned) || owned[no] {
			return held{}, api.ErrForm
		}
		owned[no] = true
		part, e := d.Read(d.blockAt(no))
		if e != api.OK {
			return held{}, e
		}
		n.blocks, n.Data = append(n.blocks, no), append(n.Data, part...)
	}
	n.Data = n.Data[:size]
	// All that wasn't looked at is right just if it would be written so.
	if !bytes.Equal(b, n.note()) {
		return held{}, api.ErrForm
	}
	return n, api.OK
}
