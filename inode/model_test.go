package inode

import (
	"bytes"
	"crypto/sha256"
	"encoding/binary"
	"slices"
	"testing"

	"creel/api"
	"creel/block"
	"creel/mode"
	"creel/wal"
)

// What a table has, and what stands in its log, told a second time, from the
// chapter's words alone.

// in is a number as so many bytes.
func in(size int, n uint64) []byte { return binary.BigEndian.AppendUint64(nil, n)[8-size:] }

// padded is a sector of these parts, and bytes 0 behind them.
func padded(parts ...[]byte) []byte {
	b := bytes.Join(parts, nil)
	return append(b, make([]byte, 64-len(b))...)
}

// signed is a sector of texts, their framed digest, and bytes 0.
func signed(texts ...[]byte) []byte {
	h := sha256.New()
	for _, text := range texts {
		h.Write(append(in(4, uint64(len(text))), text...))
	}
	return padded(append(slices.Clone(texts), h.Sum(nil))...)
}

// rawFront is the front of so many nodes.
func rawFront(nodes uint64) []byte { return signed([]byte("CREEL"), in(4, nodes)) }

// rawStat is a stat's number.
func rawStat(s mode.Stat) uint64 {
	return uint64(((s.Kind*4096+s.Mode)*65536+s.Owner)*65536 + s.Group)
}

// rawNode is the sector of a node that isn't free.
func rawNode(stat uint64, size uint64, blocks ...uint64) []byte {
	parts := [][]byte{{1}, in(8, stat), in(4, size)}
	for _, no := range blocks {
		parts = append(parts, in(4, no))
	}
	return padded(parts...)
}

// model is a table, and the data sectors of its log.
type model struct {
	nodes   []*Node // nil: free
	owner   []int   // whose a block is; below 0, if it is free
	sectors [][]byte
}

// newModel is a table without nodes, in so many data sectors of bytes 0.
func newModel(nodes, sectors int) *model {
	m := &model{nodes: make([]*Node, nodes), sectors: make([][]byte, sectors)}
	for i := range m.sectors {
		m.sectors[i] = padded()
	}
	m.sectors[0] = rawFront(uint64(nodes))
	m.owner = slices.Repeat([]int{-1}, sectors-nodes-1)
	return m
}

// room is how many blocks are free.
func (m *model) room() int {
	n := 0
	for _, owner := range m.owner {
		if owner < 0 {
			n++
		}
	}
	return n
}

// used are the nodes that aren't free.
func (m *model) used() []int {
	var l []int
	for no, n := range m.nodes {
		if n != nil {
			l = append(l, no)
		}
	}
	return l
}

// refuses is why changes are refused, whatever is free.
func (m *model) refuses(l []Change) api.Errno {
	times := map[int]int{}
	for _, c := range l {
		times[c.No]++
		if c.No < 0 || c.No > len(m.nodes)-1 {
			return api.ErrArg
		}
	}
	if len(times) < len(l) {
		return api.ErrTwice
	}
	for _, c := range l {
		s := c.Node.Stat
		switch {
		case c.Drop:
		case s.Kind < 0 || s.Kind > 4:
			return api.ErrType
		case s.Mode < 0 || s.Mode > 4095:
			return api.ErrMode
		case min(s.Owner, s.Group) < 0 || max(s.Owner, s.Group) > 65535:
			return api.ErrArg
		case len(c.Node.Data) > 512:
			return api.ErrLong
		}
	}
	return api.OK
}

// apply answers the table behind changes, and which data sectors are written,
// in order, by a log that takes so many writes.
func (m *model) apply(most int, l ...Change) (*model, []int, api.Errno) {
	if e := m.refuses(l); e != api.OK {
		return m, nil, e
	}
	b := &model{slices.Clone(m.nodes), slices.Clone(m.owner), slices.Clone(m.sectors)}
	for _, c := range l {
		b.nodes[c.No] = nil
		for i, owner := range b.owner {
			if owner == c.No {
				b.owner[i] = -1
			}
		}
	}
	var written []int
	for _, c := range l {
		if !c.Drop {
			at, full := b.put(c.No, c.Node)
			if full {
				return m, nil, api.ErrFull
			}
			written = append(written, at...)
		} else {
			b.sectors[1+c.No] = padded()
		}
		written = append(written, 1+c.No)
	}
	if len(written) > most {
		return m, nil, api.ErrFull
	}
	return b, written, api.OK
}

// put gives a free node a stat and bytes, and answers the sectors of its
// blocks; or it answers that there aren't blocks enough.
func (m *model) put(no int, n Node) ([]int, bool) {
	var blocks []uint64
	var at []int
	for rest := n.Data; len(rest) > 0; rest = rest[min(64, len(rest)):] {
		free := slices.Index(m.owner, -1)
		if free < 0 {
			return nil, true
		}
		m.owner[free] = no
		blocks, at = append(blocks, uint64(free)), append(at, 1+len(m.nodes)+free)
		m.sectors[at[len(at)-1]] = padded(rest[:min(64, len(rest))])
	}
	m.nodes[no] = &Node{n.Stat, bytes.Clone(n.Data)}
	m.sectors[1+no] = rawNode(rawStat(n.Stat), uint64(len(n.Data)), blocks...)
	return at, false
}

// errs wants an error.
func errs(t *testing.T, what string, got, want api.Errno) {
	t.Helper()
	if got != want {
		t.Fatalf("%s: %d; want %d", what, got, want)
	}
}

// opened is the log of a disk.
func opened(t *testing.T, d *block.Disk, journal int) *wal.Log {
	t.Helper()
	l, e := wal.Open(d, journal)
	errs(t, "wal.Open", e, api.OK)
	return l
}

// logged is the log of a new disk, with so many data sectors.
func logged(t *testing.T, journal, data int) (*block.Disk, *wal.Log) {
	t.Helper()
	d, e := block.New(1 + journal + data)
	errs(t, "New", e, api.OK)
	return d, opened(t, d, journal)
}

// spoil writes data sectors, past any table, one transaction each.
func spoil(t *testing.T, l *wal.Log, no int, sectors ...[]byte) {
	t.Helper()
	for i, b := range sectors {
		errs(t, "Commit", l.Commit(wal.Write{No: no + i, B: b}), api.OK)
	}
}

// tells wants a table to tell what the model does.
func tells(t *testing.T, what string, x *Table, m *model) {
	t.Helper()
	used := m.used()
	if x.Nodes() != len(m.nodes) || x.Room() != m.room() || !slices.Equal(x.Used(), used) {
		t.Fatalf("%s: %d nodes, %v used, room %d; want %d, %v, %d", what, x.Nodes(), x.Used(), x.Room(), len(m.nodes), used, m.room())
	}
	for no := -1; no <= len(m.nodes); no++ {
		n, e := x.Get(no)
		if no < 0 || no == len(m.nodes) || m.nodes[no] == nil {
			if e != api.ErrNone || n.Stat != (mode.Stat{}) || n.Data != nil {
				t.Fatalf("%s: Get(%d): %v, %d; want nothing", what, no, n, e)
			}
			continue
		}
		if w := m.nodes[no]; e != api.OK || n.Stat != w.Stat || !bytes.Equal(n.Data, w.Data) {
			t.Fatalf("%s: Get(%d): %v, %d; want %v", what, no, n, e, *w)
		}
	}
	free, e := x.Free()
	if want := slices.Index(m.nodes, nil); want >= 0 && (e != api.OK || free != want) || want < 0 && (e != api.ErrFull || free != 0) {
		t.Fatalf("%s: Free: %d, %d; want %d", what, free, e, want)
	}
}

// stands wants the log's data sectors to be the model's, and a table that is
// opened there to tell the same.
func stands(t *testing.T, what string, l *wal.Log, m *model) *Table {
	t.Helper()
	if l.Sectors() != len(m.sectors) {
		t.Fatalf("%s: %d data sectors; want %d", what, l.Sectors(), len(m.sectors))
	}
	for no, want := range m.sectors {
		if b, e := l.Read(no); e != api.OK || !bytes.Equal(b, want) {
			t.Fatalf("%s: data sector %d: %x, %d; want %x", what, no, b, e, want)
		}
	}
	x, e := Open(l)
	errs(t, what+": Open", e, api.OK)
	tells(t, what+", opened again", x, m)
	return x
}

// untouched wants what is done to leave a disk as it is, and to write nothing.
func untouched(t *testing.T, what string, d *block.Disk, f func()) {
	t.Helper()
	laid, writes, flushes := d.Laid(), d.Writes(), d.Flushes()
	f()
	if !bytes.Equal(d.Laid(), laid) || d.Writes() != writes || d.Flushes() != flushes {
		t.Fatalf("%s: the disk isn't as it was", what)
	}
}

// journalled are the data sectors that the last transaction wrote, in order.
func journalled(d *block.Disk) []int {
	laid := d.Laid()
	var l []int
	for i := range int(binary.BigEndian.Uint32(laid[64+12:])) {
		l = append(l, int(binary.BigEndian.Uint32(laid[64+128*i+16:])))
	}
	return l
}

// bench is a table with its disk and log, beside what the model tells.
type bench struct {
	d       *block.Disk
	l       *wal.Log
	x       *Table
	m       *model
	journal int
}

// formatted is a new table of so many nodes and blocks.
func formatted(t *testing.T, journal, nodes, blocks int) *bench {
	t.Helper()
	d, l := logged(t, journal, 1+nodes+blocks)
	x, e := Format(l, nodes)
	errs(t, "Format", e, api.OK)
	return &bench{d, l, x, newModel(nodes, 1+nodes+blocks), journal}
}

// apply applies changes, and wants of it what the model tells; it answers the
// error.
func (b *bench) apply(t *testing.T, l ...Change) api.Errno {
	t.Helper()
	behind, written, want := b.m.apply(b.l.Most(), l...)
	done := b.l.Done()
	laid, writes, flushes := b.d.Laid(), b.d.Writes(), b.d.Flushes()
	e := b.x.Apply(l...)
	errs(t, "Apply", e, want)
	b.m = behind
	tells(t, "behind the changes", b.x, b.m)
	if len(written) == 0 {
		if b.d.Writes() != writes || b.d.Flushes() != flushes || b.l.Done() != done || !bytes.Equal(b.d.Laid(), laid) {
			t.Fatalf("error %d, of %d changes: something is written", e, len(l))
		}
		return e
	}
	if got := journalled(b.d); b.l.Done() != done+1 || !slices.Equal(got, written) {
		t.Fatalf("transaction %d writes %v; want %v", b.l.Done()-done, got, written)
	}
	stands(t, "behind the changes", b.l, b.m)
	return e
}

// must applies changes, and wants it to be done.
func (b *bench) must(t *testing.T, l ...Change) {
	t.Helper()
	errs(t, "Apply", b.apply(t, l...), api.OK)
}

// file is a change to a file of so many bytes, none of them 0.
func file(no, size int) Change {
	return Change{No: no, Node: Node{mode.Stat{Mode: 0o644, Owner: no + 1, Group: size}, filled(size, no)}}
}

// drop is a change that drops a node.
func drop(no int) Change { return Change{No: no, Drop: true} }

// filled is so many bytes, none of them 0.
func filled(size, seed int) []byte {
	b := make([]byte, size)
	for i := range b {
		b[i] = byte(1 + (i*7+i/64+seed*31)%255)
	}
	return b
}
