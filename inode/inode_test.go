package inode

import (
	"bytes"
	"fmt"
	"math"
	"slices"
	"testing"

	"creel/api"
	"creel/block"
	"creel/mode"
	"creel/wal"
)

// P7.1: how many blocks bytes need.
func TestBlocks(t *testing.T) {
	for n, want := range map[int]int{
		math.MinInt: 0, -65: 0, -64: 0, -1: 0, 0: 0, 1: 1, 63: 1, 64: 1, 65: 2, 128: 2, 129: 3, 511: 8, 512: 8, 513: 9,
		1 << 40: 1 << 34, 1<<40 + 1: 1<<34 + 1, math.MaxInt - 63: 1<<57 - 1, math.MaxInt - 62: 1 << 57, math.MaxInt: 1 << 57,
	} {
		if got := Blocks(n); got != want {
			t.Errorf("Blocks(%d): %d; want %d", n, got, want)
		}
	}
}

// P7.1: how many nodes there may be, in which logs; what is laid then.
func TestFormatBounds(t *testing.T) {
	for _, c := range []struct {
		nodes, data int
		want        api.Errno
	}{
		{1, 3, api.OK},
		{1, 2, api.ErrArg},
		{1, 1, api.ErrArg},
		{2, 4, api.OK},
		{2, 3, api.ErrArg},
		{10, 40, api.OK},
		{400, 402, api.OK},
		{400, 401, api.ErrArg},
		{400, 400, api.ErrArg},
		{399, 401, api.OK},
		{400, 4093, api.OK},
		{401, 403, api.ErrArg},
		{401, 4093, api.ErrArg},
		{4000, 4093, api.ErrArg},
		{0, 4093, api.ErrArg},
		{0, 2, api.ErrArg},
		{-1, 40, api.ErrArg},
		{-400, 40, api.ErrArg},
		{math.MaxInt, 40, api.ErrArg},
		{math.MaxInt - 1, 40, api.ErrArg},
		{math.MinInt, 40, api.ErrArg},
		{math.MinInt + 1, 40, api.ErrArg},
	} {
		d, l := logged(t, 2, c.data)
		if c.want != api.OK {
			untouched(t, "Format", d, func() {
				if x, e := Format(l, c.nodes); x != nil || e != c.want {
					t.Fatalf("Format(%d) in %d: %v, %d; want %d", c.nodes, c.data, x, e, c.want)
				}
			})
			continue
		}
		x, e := Format(l, c.nodes)
		errs(t, "Format", e, c.want)
		if l.Done() != 1 || !slices.Equal(journalled(d), []int{0}) {
			t.Fatalf("%d transactions, that of %v", l.Done(), journalled(d))
		}
		m := newModel(c.nodes, c.data)
		tells(t, "new", x, m)
		stands(t, "new", l, m)
		untouched(t, "Format", d, func() {
			if x, e := Format(l, c.nodes); x != nil || e != api.ErrTwice {
				t.Fatalf("Format again: %v, %d", x, e)
			}
		})
	}
}

// P7.1: what keeps a log from being formatted, each ahead of what is named
// behind it.
func TestFormatRefuses(t *testing.T) {
	for _, nodes := range []int{-1, 0, 1, 401} {
		if x, e := Format(nil, nodes); x != nil || e != api.ErrState {
			t.Fatalf("Format of a nil log: %v, %d", x, e)
		}
	}
	if x, e := Format(&wal.Log{}, 1); x != nil || e != api.ErrArg {
		t.Fatalf("Format of a log on no disk: %v, %d", x, e)
	}
	for at := range api.SectorSize {
		d, l := logged(t, 2, 8)
		front := padded()
		front[at] = byte(1 << (at % 8))
		spoil(t, l, 0, front)
		untouched(t, "Format", d, func() {
			for nodes, want := range map[int]api.Errno{6: api.ErrTwice, 1: api.ErrTwice, 7: api.ErrArg, 0: api.ErrArg} {
				if x, e := Format(l, nodes); x != nil || e != want {
					t.Fatalf("Format(%d) with byte %d of the front: %v, %d; want %d", nodes, at, x, e, want)
				}
			}
		})
	}
}

// P7.1: the log's errors.
func TestFormatLogsErrors(t *testing.T) {
	d, l := logged(t, 2, 8)
	d.Crash()
	for nodes, want := range map[int]api.Errno{6: api.ErrDown, 7: api.ErrArg, 0: api.ErrArg} {
		if x, e := Format(l, nodes); x != nil || e != want {
			t.Fatalf("Format(%d) without power: %v, %d; want %d", nodes, x, e, want)
		}
	}
	for n, want := range []api.Errno{api.ErrFull, api.OK} {
		d, _ := block.New(11)
		_ = d.Write(0, signed(in(8, uint64(1<<60-n))))
		_ = d.Flush()
		x, e := Format(opened(t, d, 2), 6)
		if (x != nil) != (want == api.OK) || e != want {
			t.Fatalf("Format at number 2^60 - %d: %v, %d; want %d", n, x, e, want)
		}
	}
}

// dirty is a log whose front is all 0, and whose next sectors aren't, as if
// there were six nodes, and blocks; the model is what it is once formatted.
func dirty(t *testing.T, journal int) (*block.Disk, *wal.Log, *model) {
	t.Helper()
	d, l := logged(t, journal, 12)
	dirt := bytes.Repeat([]byte{9}, 64)
	spoil(t, l, 2, dirt, padded(), rawNode(0, 0), padded([]byte{0, 1}), dirt, dirt, dirt)
	m := newModel(6, 12)
	m.sectors[7], m.sectors[8] = dirt, dirt
	return d, l, m
}

// P7.1: the new table has no nodes, whatever is in their sectors: opened again
// it has none either. What is in blocks may stay.
func TestFormatClears(t *testing.T) {
	for _, journal := range []int{2, 4, 6, 8, 10, 12, 40} {
		d, l, m := dirty(t, journal)
		x, e := Format(l, 6)
		errs(t, "Format", e, api.OK)
		tells(t, "over something", x, m)
		stands(t, "over something", l, m)
		b := &bench{d, l, x, m, journal}
		b.must(t, file(3, 0))
		b.must(t, drop(3))
	}
}

// P7.1: fronts that are right, and those that aren't in each of their parts.
func TestOpenFront(t *testing.T) {
	const data = 12
	name, right := []byte("CREEL"), rawFront(10)
	fronts := map[string][]byte{
		"all 0":          padded(),
		"no nodes":       rawFront(0),
		"too many nodes": rawFront(11),
		"all sectors":    rawFront(data),
		"far too many":   rawFront(401),
		"very many":      rawFront(1 << 31),
		"as many as can": rawFront(1<<32 - 1),
		"another name":   signed([]byte("CREEM"), in(4, 10)),
		"a small name":   signed([]byte("creel"), in(4, 10)),
		"a digest of both as one": append(append(append([]byte{}, name...), in(4, 10)...),
			signed(append([]byte("CREEL"), in(4, 10)...))[9:]...),
		"other numbers":   signed(name, []byte{10, 0, 0, 0}),
		"eight bytes":     signed(name, in(8, 10)),
		"no digest":       padded(name, in(4, 10)),
		"another one's":   append(bytes.Clone(rawFront(9)[:9]), right[9:]...),
		"an empty name":   signed(nil, in(4, 10)),
		"a digest behind": append(bytes.Clone(right[:9]), append([]byte{0}, right[9:63]...)...),
	}
	for what, b := range fronts {
		refusesSectors(t, what, data, map[int][]byte{0: b})
	}
	for bit := range 8 * api.SectorSize {
		b := bytes.Clone(right)
		b[bit/8] ^= 1 << (bit % 8)
		refusesSectors(t, "a bit of the front", data, map[int][]byte{0: b})
	}
	for nodes := 1; nodes <= 10; nodes++ {
		_, l := logged(t, 2, data)
		spoil(t, l, 0, rawFront(uint64(nodes)))
		stands(t, "a right front", l, newModel(nodes, data))
	}
	for nodes, want := range map[uint64]api.Errno{400: api.OK, 401: api.ErrForm} {
		_, l := logged(t, 2, 500)
		spoil(t, l, 0, rawFront(nodes))
		if x, e := Open(l); e != want || (x != nil) != (e == api.OK) {
			t.Fatalf("a front of %d nodes: %v, %d", nodes, x, e)
		}
	}
}

// refusesSectors wants a log with these data sectors not to be a table's, and
// to be left as it is.
func refusesSectors(t *testing.T, what string, data int, sectors map[int][]byte) {
	t.Helper()
	d, l := logged(t, 2, data)
	for no, b := range sectors {
		spoil(t, l, no, b)
	}
	untouched(t, what, d, func() {
		if x, e := Open(l); x != nil || e != api.ErrForm {
			t.Fatalf("%s: %v, %d; want %d", what, x, e, api.ErrForm)
		}
	})
}

// P7.1: what keeps a log from being opened, ahead of what stands in it.
func TestOpenRefuses(t *testing.T) {
	if x, e := Open(nil); x != nil || e != api.ErrState {
		t.Fatalf("Open of a nil log: %v, %d", x, e)
	}
	if x, e := Open(&wal.Log{}); x != nil || e != api.ErrDown {
		t.Fatalf("Open of a log on no disk: %v, %d", x, e)
	}
	for _, front := range [][]byte{rawFront(3), padded(), padded([]byte("CREEL"))} {
		d, l := logged(t, 2, 12)
		spoil(t, l, 0, front)
		d.Crash()
		if x, e := Open(l); x != nil || e != api.ErrDown {
			t.Fatalf("Open without power: %v, %d", x, e)
		}
	}
}

// P7.1: nodes' sectors that aren't right.
func TestOpenNodes(t *testing.T) {
	const nodes, blocks = 4, 10
	data := 1 + nodes + blocks
	stat := rawStat(mode.Stat{Kind: 2, Mode: 0o755, Owner: 5, Group: 7})
	two := rawNode(stat, 65, 2, 9)
	with := func(b []byte, at int, c byte) []byte {
		b = bytes.Clone(b)
		b[at] = c
		return b
	}
	wrong := map[string][]byte{
		"a first byte 2":         with(two, 0, 2),
		"a first byte 255":       with(two, 0, 255),
		"a first byte 0":         with(two, 0, 0),
		"a first byte 2 alone":   padded([]byte{2}),
		"kind 5":                 rawNode(5<<44, 0),
		"a stat far up":          rawNode(1<<48, 0),
		"a stat with 2^63":       rawNode(1<<63, 0),
		"a stat with all bits":   rawNode(math.MaxUint64, 65, 2, 9),
		"513 bytes":              rawNode(stat, 513, 0, 1, 2, 3, 4, 5, 6, 7, 8),
		"513 bytes, eight":       rawNode(stat, 513, 0, 1, 2, 3, 4, 5, 6, 7),
		"very many bytes":        rawNode(stat, 1<<32-1, 2, 9),
		"2^31 bytes":             rawNode(stat, 1<<31, 2, 9),
		"a block behind the end": rawNode(stat, 64, blocks),
		"the second one behind":  rawNode(stat, 65, 1, blocks),
		"a block far behind":     rawNode(stat, 64, 1<<32-1),
		"a block of 2^31":        rawNode(stat, 64, 1<<31),
		"a block twice":          rawNode(stat, 65, 3, 3),
		"a block twice, apart":   rawNode(stat, 200, 3, 4, 0, 3),
		"a block too many":       rawNode(stat, 64, 2, 9),
		"a block, of no bytes":   rawNode(stat, 0, 2),
		"one too few":            rawNode(stat, 129, 0, 9), // the third one is 0, too
	}
	for at := 1; at < 64; at++ {
		wrong[fmt.Sprint("a free one's byte ", at)] = with(padded(), at, 1)
		if at >= 13 {
			wrong[fmt.Sprint("behind no blocks, byte ", at)] = with(rawNode(stat, 0), at, 128)
		}
		if at >= 21 {
			wrong[fmt.Sprint("behind two blocks, byte ", at)] = with(two, at, 1)
		}
	}
	wrong["the last byte behind eight"] = with(rawNode(stat, 512, 1, 2, 3, 4, 5, 6, 7, 8), 63, 1)
	wrong["the first byte behind eight"] = with(rawNode(stat, 512, 1, 2, 3, 4, 5, 6, 7, 8), 45, 1)
	for what, b := range wrong {
		for no := range nodes {
			refusesSectors(t, what, data, map[int][]byte{0: rawFront(nodes), 1 + no: b})
		}
	}
	for first := range nodes {
		for second := range first {
			refusesSectors(t, "two that have a block", data, map[int][]byte{
				0: rawFront(nodes), 1 + first: rawNode(0, 130, 0, 4, 9), 1 + second: rawNode(stat, 65, 3, 9)})
		}
	}
}

// P7.1: what stands in sectors, and wasn't laid by a table, is read if it is
// right: blocks in any order, and of any bytes behind a node's.
func TestOpenReads(t *testing.T) {
	_, l := logged(t, 2, 15)
	blocks := filled(640, 3)
	spoil(t, l, 0, rawFront(4), rawNode(0, 0), padded(), rawNode(rawStat(mode.Stat{Kind: 4, Mode: 4095, Owner: 65535, Group: 65535}), 130, 9, 0, 5), rawNode(1, 1, 1))
	for i := range 10 {
		spoil(t, l, 5+i, blocks[64*i:64*i+64])
	}
	x, e := Open(l)
	errs(t, "Open", e, api.OK)
	if x.Nodes() != 4 || x.Room() != 6 || !slices.Equal(x.Used(), []int{0, 2, 3}) {
		t.Fatal(x.Nodes(), x.Room(), x.Used())
	}
	for no, want := range map[int]Node{
		0: {},
		2: {mode.Stat{Kind: 4, Mode: 4095, Owner: 65535, Group: 65535}, slices.Concat(blocks[576:], blocks[:64], blocks[320:322])},
		3: {mode.Stat{Group: 1}, blocks[64:65]},
	} {
		if n, e := x.Get(no); e != api.OK || n.Stat != want.Stat || !bytes.Equal(n.Data, want.Data) {
			t.Fatalf("Get(%d): %v, %d; want %v", no, n, e, want)
		}
	}
	if e := x.Apply(file(1, 1)); e != api.ErrFull { // of the log
		t.Fatal(e)
	}
}

// P7.1: each bit of a right node's sector turned: it is another right one, or
// none.
func TestOpenBits(t *testing.T) {
	const blocks = 20
	for _, sizes := range [][]uint64{{65, 2, 9}, {0}, {64, 16}, {512, 12, 3, 17, 5, 6, 7, 8, 9}, {500, 19, 18, 17, 16, 15, 14, 13, 12}} {
		right := rawNode(rawStat(mode.Stat{Kind: 1, Mode: 0o755, Owner: 5, Group: 7}), sizes[0], sizes[1:]...)
		for bit := range 8 * api.SectorSize {
			b := bytes.Clone(right)
			b[bit/8] ^= 1 << (bit % 8)
			_, l := logged(t, 2, 2+blocks+1)
			spoil(t, l, 0, rawFront(2), rawNode(0, 64, 0), b)
			x, e := Open(l)
			if is := rightNode(b, blocks, 0); (x != nil) != is || is != (e == api.OK) || !is && e != api.ErrForm {
				t.Fatalf("bit %d of %x: %v, %d; is it right? %v", bit, right, x, e, is)
			}
		}
	}
}

// rightNode tells whether a sector is one of a node that isn't free, with
// blocks below some, and none of those that others own.
func rightNode(b []byte, blocks uint64, others ...uint64) bool {
	number := func(from, to int) uint64 {
		n := uint64(0)
		for _, c := range b[from:to] {
			n = n*256 + uint64(c)
		}
		return n
	}
	if b[0] != 1 || number(1, 9) >= 5*4096*65536*65536 || number(9, 13) > 512 {
		return false
	}
	end := 13 + 4*int((number(9, 13)+63)/64)
	for at := 13; at < end; at += 4 {
		no := number(at, at+4)
		if no >= blocks || slices.Contains(others, no) {
			return false
		}
		others = append(others, no)
	}
	return len(bytes.Trim(b[end:], "\x00")) == 0
}

// P7.2: nodes of all sizes, at both ends of the table, and nodes that aren't
// there.
func TestGet(t *testing.T) {
	for _, size := range []int{0, 1, 63, 64, 65, 128, 200, 448, 449, 511, 512} {
		b := formatted(t, 40, 5, 20)
		b.must(t, file(0, size))
		b.must(t, file(4, size))
		for _, no := range []int{-1, math.MinInt, 1, 3, 5, math.MaxInt} {
			if n, e := b.x.Get(no); e != api.ErrNone || n.Data != nil || n.Stat != (mode.Stat{}) {
				t.Fatalf("Get(%d): %v, %d", no, n, e)
			}
		}
		if b.x.Room() != 20-2*((size+63)/64) {
			t.Fatalf("room %d with two nodes of %d bytes", b.x.Room(), size)
		}
	}
	b := formatted(t, 40, 400, 1)
	b.must(t, Change{No: 399, Node: Node{Stat: mode.Stat{Kind: mode.Pipe}, Data: []byte{0}}})
	b.must(t, file(0, 0), drop(398))
	if _, e := b.x.Get(400); e != api.ErrNone {
		t.Fatal(e)
	}
}

// P7.2: what a table tells doesn't need power.
func TestGetWithoutPower(t *testing.T) {
	b := formatted(t, 40, 5, 20)
	b.must(t, file(2, 100), file(0, 512))
	b.d.Crash()
	tells(t, "without power", b.x, b.m)
	b.d.Power()
	tells(t, "with power again", b.x, b.m)
}

// given is a change to a stat, and so many bytes.
func given(no int, s mode.Stat, size int) Change {
	return Change{No: no, Node: Node{s, make([]byte, size)}}
}

// P7.2: what is refused, each ahead of what is named behind it; of stats and
// sizes the first change's that is wrong.
func TestApplyRefuses(t *testing.T) {
	b := formatted(t, 40, 5, 9)
	b.must(t, file(1, 100), file(3, 0))
	kind, bits, who := mode.Stat{Kind: 5}, mode.Stat{Mode: 4096}, mode.Stat{Owner: -1}
	ok := mode.Stat{}
	for i, c := range []struct {
		l    []Change
		want api.Errno
	}{
		{[]Change{file(-1, 0)}, api.ErrArg},
		{[]Change{file(5, 0)}, api.ErrArg},
		{[]Change{drop(5)}, api.ErrArg},
		{[]Change{drop(-1)}, api.ErrArg},
		{[]Change{drop(math.MinInt)}, api.ErrArg},
		{[]Change{drop(math.MaxInt)}, api.ErrArg},
		{[]Change{file(0, 0), drop(1), file(5, 0)}, api.ErrArg},
		{[]Change{file(0, 0), file(0, 0)}, api.ErrTwice},
		{[]Change{file(0, 0), drop(0)}, api.ErrTwice},
		{[]Change{drop(0), file(1, 0), file(0, 0)}, api.ErrTwice},
		{[]Change{drop(3), drop(3)}, api.ErrTwice},
		{[]Change{drop(4), file(2, 1), drop(4), file(2, 1)}, api.ErrTwice},
		{[]Change{file(0, 0), file(0, 0), file(5, 0)}, api.ErrArg}, // ahead of the two
		{[]Change{drop(7), drop(7)}, api.ErrArg},
		{[]Change{given(0, kind, 0)}, api.ErrType},
		{[]Change{given(0, mode.Stat{Kind: -1}, 0)}, api.ErrType},
		{[]Change{given(0, bits, 0)}, api.ErrMode},
		{[]Change{given(0, mode.Stat{Mode: -1}, 0)}, api.ErrMode},
		{[]Change{given(0, who, 0)}, api.ErrArg},
		{[]Change{given(0, mode.Stat{Owner: 65536}, 0)}, api.ErrArg},
		{[]Change{given(0, mode.Stat{Group: -1}, 0)}, api.ErrArg},
		{[]Change{given(0, mode.Stat{Group: 65536}, 0)}, api.ErrArg},
		{[]Change{given(0, ok, 513)}, api.ErrLong},
		{[]Change{given(0, ok, 100000)}, api.ErrLong},
		{[]Change{given(0, kind, 513)}, api.ErrType}, // of one change its stat
		{[]Change{given(0, who, 513)}, api.ErrArg},
		{[]Change{given(0, ok, 513), given(1, kind, 0)}, api.ErrLong},
		{[]Change{given(1, kind, 0), given(0, ok, 513)}, api.ErrType},
		{[]Change{given(0, who, 0), given(1, bits, 0), given(2, kind, 0)}, api.ErrArg},
		{[]Change{file(0, 3), given(4, bits, 0), given(2, kind, 513)}, api.ErrMode},
		{[]Change{given(0, kind, 0), file(5, 0)}, api.ErrArg}, // of all changes ahead of stats
		{[]Change{given(0, kind, 0), given(0, kind, 0)}, api.ErrTwice},
		{[]Change{given(0, ok, 513), file(1, 0), file(1, 0)}, api.ErrTwice},
		{[]Change{file(0, 512), given(1, ok, 513), file(2, 512)}, api.ErrLong}, // ahead of blocks
		{[]Change{file(0, 512), file(2, 512), given(3, bits, 0)}, api.ErrMode},
		{[]Change{file(0, 512)}, api.ErrFull},
		{[]Change{file(0, 512), drop(3)}, api.ErrFull},
		{[]Change{file(0, 448), file(4, 1)}, api.ErrFull},
	} {
		if got := b.apply(t, c.l...); got != c.want {
			t.Errorf("%d: %d; want %d", i, got, c.want)
		}
	}
	b.d.Crash()
	for i, c := range []struct {
		l    []Change
		want api.Errno
	}{
		{nil, api.ErrDown},
		{[]Change{file(0, 0)}, api.ErrDown},
		{[]Change{drop(3)}, api.ErrDown},
		{[]Change{file(0, 448)}, api.ErrDown},
		{[]Change{file(0, 449)}, api.ErrFull},
		{[]Change{file(5, 0)}, api.ErrArg},
		{[]Change{drop(2), drop(2)}, api.ErrTwice},
		{[]Change{given(0, kind, 0)}, api.ErrType},
		{[]Change{given(0, ok, 513)}, api.ErrLong},
	} {
		if got := b.x.Apply(c.l...); got != c.want {
			t.Errorf("%d, without power: %d; want %d", i, got, c.want)
		}
		tells(t, "without power", b.x, b.m)
	}
}

// P7.2: a node that is dropped has nothing that is looked at; nor need it be
// there.
func TestDrop(t *testing.T) {
	b := formatted(t, 40, 5, 9)
	b.must(t, file(1, 100), file(3, 0), file(4, 64))
	for _, n := range []Node{{}, {Stat: mode.Stat{Kind: 9}}, {Stat: mode.Stat{Owner: -1}, Data: make([]byte, 513)}, {Data: make([]byte, 100000)}} {
		b.must(t, Change{No: 1, Node: n, Drop: true})
		b.must(t, Change{No: 2, Node: n, Drop: true}, file(1, 100))
		b.must(t, Change{No: 2, Node: n, Drop: true})
	}
	b.must(t, drop(4), drop(3), drop(2), drop(1), drop(0))
	if b.x.Room() != 9 || len(b.x.Used()) != 0 {
		t.Fatal(b.x.Room(), b.x.Used())
	}
}

// P7.2: which blocks are taken: of all changed nodes they are free, and each in
// order takes the lowest ones.
func TestBlocksTaken(t *testing.T) {
	b := formatted(t, 60, 6, 12)
	blocks := func(no int) []byte { return b.m.sectors[1+no][13:] }
	b.must(t, file(5, 130), file(0, 64), file(3, 100)) // 0 1 2, 3, 4 5
	if !bytes.HasPrefix(blocks(5), slices.Concat(in(4, 0), in(4, 1), in(4, 2))) || !bytes.HasPrefix(blocks(3), append(in(4, 4), in(4, 5)...)) {
		t.Fatal("the model takes others")
	}
	b.must(t, drop(0))
	b.must(t, file(1, 65))              // 3 6
	b.must(t, file(3, 300), file(5, 1)) // of 0 1 2 4 5 and 7 on: 0 1 2 4 5, 7
	if !bytes.HasPrefix(blocks(3), slices.Concat(in(4, 0), in(4, 1), in(4, 2), in(4, 4), in(4, 5))) || !bytes.HasPrefix(blocks(5), in(4, 7)) {
		t.Fatal("the model takes others")
	}
	b.must(t, file(0, 64), drop(3)) // a drop behind it frees, too: 0
	b.must(t, drop(1), file(2, 512))
	b.must(t, file(2, 511), file(5, 64), file(0, 1))
	b.must(t, file(0, 0), file(2, 0), file(5, 0))
	if b.x.Room() != 12 {
		t.Fatal(b.x.Room())
	}
}

// P7.2: blocks enough, and one too few; what changed nodes have counts as free.
func TestBlocksFull(t *testing.T) {
	b := formatted(t, 200, 6, 9)
	errs(t, "one too few", b.apply(t, file(0, 512), file(1, 65)), api.ErrFull)
	b.must(t, file(0, 512), file(1, 64), file(2, 0)) // just enough
	if b.x.Room() != 0 {
		t.Fatal(b.x.Room())
	}
	b.must(t, file(3, 0)) // none is needed
	errs(t, "no free one", b.apply(t, file(3, 1)), api.ErrFull)
	errs(t, "no free one", b.apply(t, drop(3), file(4, 1)), api.ErrFull)
	errs(t, "one of its own, two needed", b.apply(t, file(1, 65)), api.ErrFull)
	b.must(t, file(1, 64))                           // its own one
	b.must(t, file(4, 64), file(1, 0))               // another's, that comes behind
	b.must(t, file(5, 449), drop(0))                 // one that is dropped behind
	b.must(t, drop(4), file(0, 3))                   // one that is dropped ahead
	b.must(t, file(0, 65), file(5, 448), file(2, 0)) // given from one to another
	errs(t, "one too many", b.apply(t, file(0, 192), file(5, 448), file(2, 0)), api.ErrFull)
	errs(t, "two", b.apply(t, file(0, 1), file(5, 448), file(2, 65)), api.ErrFull)
	b.must(t, file(0, 1), file(5, 448), file(2, 64))
	b.must(t, file(2, 512), drop(0), drop(5), file(1, 1))
	b.must(t, drop(2), drop(1))
	if b.x.Room() != 9 {
		t.Fatal(b.x.Room())
	}
}

// P7.2: as many writes as the log takes, and one more.
func TestMostWrites(t *testing.T) {
	b := formatted(t, 24, 20, 40) // twelve writes
	b.must(t, file(0, 512), file(1, 65))
	errs(t, "13", b.apply(t, file(0, 512), file(1, 129)), api.ErrFull)
	errs(t, "13", b.apply(t, file(0, 512), file(1, 65), drop(9)), api.ErrFull)
	errs(t, "13", b.apply(t, file(0, 512), file(2, 1), file(1, 1)), api.ErrFull)
	b.must(t, file(0, 512), drop(2), file(1, 1))
	var l []Change
	for no := range 13 {
		l = append(l, drop(no))
	}
	errs(t, "13", b.apply(t, l...), api.ErrFull)
	b.must(t, l[1:]...)
	b.must(t, l[:12]...)
	for i := range l {
		l[i] = file(i, 0)
	}
	errs(t, "13", b.apply(t, l...), api.ErrFull)
	b.must(t, l[:12]...)
	b = formatted(t, 2, 3, 9) // one write
	b.must(t, file(1, 0))
	errs(t, "two", b.apply(t, file(1, 1)), api.ErrFull)
	errs(t, "two", b.apply(t, drop(1), drop(2)), api.ErrFull)
	b.must(t, drop(1))
}

// P7.2: the greatest table in the greatest log.
func TestGreatest(t *testing.T) {
	b := formatted(t, 1024, 400, 4096-1-1024-401)
	var l []Change
	for no := range 56 {
		l = append(l, file(399-no*7, 512))
	}
	b.must(t, append(l, file(0, 448))...) // 512 writes
	errs(t, "513", b.apply(t, append(l, file(0, 449))...), api.ErrFull)
	for no := range 8 {
		for i := range l {
			l[i] = file((56*no+i)%400, 512-i)
		}
		if e := b.apply(t, l...); e == api.ErrFull {
			b.must(t, l[:2]...)
		}
	}
}

// P7.2: no changes at all are the log's transaction of no writes.
func TestNoChanges(t *testing.T) {
	b := formatted(t, 24, 5, 9)
	b.must(t)
	b.must(t, file(1, 65))
	b.must(t, []Change{}...)
	b.d.Crash()
	errs(t, "without power", b.x.Apply(), api.ErrDown)
	tells(t, "without power", b.x, b.m)
}

// P7.2: the log's error at its last number, of changes and of none.
func TestLastNumber(t *testing.T) {
	d, e := block.New(20)
	errs(t, "New", e, api.OK)
	errs(t, "Write", d.Write(0, signed(in(8, 1<<60-2))), api.OK)
	errs(t, "Flush", d.Flush(), api.OK)
	l := opened(t, d, 6)
	x, e := Format(l, 4)
	errs(t, "Format", e, api.OK)
	errs(t, "the last one", x.Apply(file(1, 3)), api.OK)
	m, _, _ := newModel(4, 13).apply(3, file(1, 3))
	for _, c := range [][]Change{nil, {file(1, 4)}, {drop(1)}, {file(2, 0)}} {
		errs(t, "one more", x.Apply(c...), api.ErrFull)
		tells(t, "behind the last one", x, m)
		stands(t, "behind the last one", l, m)
	}
}

// P7.3: the lowest free node that isn't among some.
func TestFree(t *testing.T) {
	b := formatted(t, 40, 6, 9)
	b.must(t, file(0, 1), file(2, 1))
	for i, c := range []struct {
		but  []int
		want int
	}{
		{nil, 1},
		{[]int{}, 1},
		{[]int{0, 2}, 1},
		{[]int{3}, 1},
		{[]int{1}, 3},
		{[]int{1, 1, 1}, 3},
		{[]int{4, 1}, 3},
		{[]int{3, 1}, 4},
		{[]int{4, 3, 1}, 5},
		{[]int{1, 3, 4, -1, 6, math.MaxInt, math.MinInt}, 5},
		{[]int{5, 5, 3, 1}, 4},
	} {
		was := slices.Clone(c.but)
		if no, e := b.x.Free(c.but...); no != c.want || e != api.OK || !slices.Equal(c.but, was) {
			t.Errorf("%d: Free(%v): %d, %d; want %d", i, was, no, e, c.want)
		}
	}
	for _, but := range [][]int{{1, 3, 4, 5}, {5, 4, 3, 2, 1, 0}, {-7, 5, 1, 4, 3, 9}} {
		if no, e := b.x.Free(but...); no != 0 || e != api.ErrFull {
			t.Errorf("Free(%v): %d, %d", but, no, e)
		}
	}
	b.must(t, file(1, 0), file(3, 0), file(4, 0), file(5, 0))
	for _, but := range [][]int{nil, {1}, {6}} {
		if no, e := b.x.Free(but...); no != 0 || e != api.ErrFull {
			t.Errorf("Free(%v) of none: %d, %d", but, no, e)
		}
	}
	b.must(t, drop(0))
	if no, e := b.x.Free(); no != 0 || e != api.OK {
		t.Errorf("Free: %d, %d; want 0", no, e)
	}
	if no, e := b.x.Free(0); no != 0 || e != api.ErrFull {
		t.Errorf("Free(0): %d, %d", no, e)
	}
	b.d.Crash()
	if no, e := b.x.Free(); no != 0 || e != api.OK {
		t.Errorf("Free without power: %d, %d; want 0", no, e)
	}
}

// P7.3: what is used rises, whatever the order it came in.
func TestUsed(t *testing.T) {
	b := formatted(t, 200, 60, 1)
	if l := b.x.Used(); len(l) != 0 {
		t.Fatal(l)
	}
	for i := range 60 {
		b.must(t, file(i*37%60, 0))
		if l := b.x.Used(); len(l) != i+1 || !slices.IsSorted(l) {
			t.Fatal(l)
		}
	}
}

// P7.3: the same stats and bytes.
func TestSame(t *testing.T) {
	n := Node{mode.Stat{Kind: 1, Mode: 2, Owner: 3, Group: 4}, []byte("ab")}
	for i, c := range []struct {
		a, b Node
		same bool
	}{
		{Node{}, Node{}, true},
		{Node{}, Node{Data: []byte{}}, true},
		{n, n, true},
		{n, Node{n.Stat, []byte("ab")}, true},
		{n, Node{n.Stat, []byte("ac")}, false},
		{n, Node{n.Stat, []byte("bb")}, false},
		{n, Node{n.Stat, []byte("a")}, false},
		{n, Node{n.Stat, []byte("abc")}, false},
		{n, Node{n.Stat, []byte("ab\x00")}, false},
		{n, Node{n.Stat, nil}, false},
		{n, Node{mode.Stat{Kind: 2, Mode: 2, Owner: 3, Group: 4}, n.Data}, false},
		{n, Node{mode.Stat{Kind: 1, Mode: 3, Owner: 3, Group: 4}, n.Data}, false},
		{n, Node{mode.Stat{Kind: 1, Mode: 2, Owner: 4, Group: 4}, n.Data}, false},
		{n, Node{mode.Stat{Kind: 1, Mode: 2, Owner: 3, Group: 3}, n.Data}, false},
		{Node{Stat: mode.Stat{Kind: 9, Mode: -1}}, Node{Stat: mode.Stat{Kind: 9, Mode: -1}}, true}, // not right ones, too
		{Node{Stat: mode.Stat{Kind: 9}}, Node{Stat: mode.Stat{Kind: -9}}, false},
		{Node{Data: make([]byte, 1000)}, Node{Data: make([]byte, 1000)}, true},
	} {
		if Same(c.a, c.b) != c.same || Same(c.b, c.a) != c.same {
			t.Errorf("%d: Same: %v; want %v", i, Same(c.a, c.b), c.same)
		}
	}
}

// P7.4: bytes and lists that are handed in are neither kept nor changed, and
// answers are new memory.
func TestBytesAreNew(t *testing.T) {
	b := formatted(t, 40, 5, 12)
	for _, size := range []int{1, 64, 65, 512} {
		behind, _, _ := b.m.apply(20, file(1, size), file(3, 0))
		c := []Change{file(1, size), file(3, 0)}
		data := append(slices.Clip(c[0].Node.Data), 1, 2, 3)
		c[0].Node.Data = data[:size:len(data)] // with room behind it
		errs(t, "Apply", b.x.Apply(c...), api.OK)
		if c[0].No != 1 || !bytes.Equal(data, append(file(1, size).Node.Data, 1, 2, 3)) || c[1].No != 3 || c[1].Drop {
			t.Fatal("what is handed in is changed")
		}
		clear(data)
		c[0], c[1] = drop(2), drop(2)
		tells(t, "what was handed in is written over", b.x, behind)
		for _, x := range []*Table{b.x, stands(t, "what was handed in is written over", b.l, behind)} {
			n, _ := x.Get(1)
			clear(n.Data[:cap(n.Data)])
			used := x.Used()
			clear(used[:cap(used)])
			m, _ := x.Get(3)
			_ = append(m.Data, 9)
			tells(t, "what was answered is written over", x, behind)
		}
		stands(t, "what was answered is written over", b.l, behind)
		b.m = behind
	}
}

// P7.4: a nil table tells nothing, and one that is in no log has no nodes.
func TestNilTable(t *testing.T) {
	for _, c := range []struct {
		x                       *Table
		get, none, change, free api.Errno
	}{
		{nil, api.ErrState, api.ErrState, api.ErrState, api.ErrState},
		{&Table{}, api.ErrNone, api.ErrState, api.ErrArg, api.ErrFull},
	} {
		for _, no := range []int{0, -1, 1, math.MaxInt} {
			if n, e := c.x.Get(no); e != c.get || n.Data != nil || n.Stat != (mode.Stat{}) {
				t.Errorf("Get(%d): %v, %d; want %d", no, n, e, c.get)
			}
			errs(t, "Apply", c.x.Apply(file(no, 1)), c.change)
			errs(t, "Apply", c.x.Apply(drop(no), drop(no)), c.change)
			if got, e := c.x.Free(no); got != 0 || e != c.free {
				t.Errorf("Free(%d): %d, %d; want %d", no, got, e, c.free)
			}
		}
		errs(t, "Apply", c.x.Apply(), c.none)
		errs(t, "Apply", c.x.Apply(Change{No: 1, Node: Node{Stat: mode.Stat{Kind: 9}}}), c.change)
		if no, e := c.x.Free(); no != 0 || e != c.free {
			t.Errorf("Free: %d, %d; want %d", no, e, c.free)
		}
		if c.x.Nodes() != 0 || len(c.x.Used()) != 0 || c.x.Room() != 0 {
			t.Error("it tells something")
		}
	}
}

// The chapter's examples.
func TestExamples(t *testing.T) {
	if Blocks(64) != 1 || Blocks(65) != 2 {
		t.Error(Blocks(64), Blocks(65))
	}
	b := formatted(t, 40, 5, 12)
	b.must(t, file(0, 512))
	if b.x.Room() != 4 {
		t.Error(b.x.Room())
	}
}
