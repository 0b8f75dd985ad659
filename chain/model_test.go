package chain

import (
	"bytes"
	"crypto/sha256"
	"encoding/binary"
	"fmt"
	"regexp"
	"slices"
	"strconv"
	"strings"
	"testing"

	"creel/api"
	"creel/block"
	"creel/codec"
	"creel/inode"
	"creel/mode"
	"creel/table"
	"creel/tree"
	"creel/wal"
)

// What a chain answers, told a second time from the chapter's words, by texts;
// what stands in the table is told by a twin, in which the table's calls alone do
// what the model tells.

// markOf is the mark behind a record.
func markOf(ahead [32]byte, no int, b string) [32]byte {
	number := binary.BigEndian.AppendUint64(nil, uint64(no))
	h := sha256.New()
	for _, part := range [][]byte{ahead[:], number, []byte(b)} {
		binary.Write(h, binary.BigEndian, uint32(len(part)))
		h.Write(part)
	}
	return [32]byte(h.Sum(nil))
}

// headOf is the mark behind the last of these records.
func headOf(l ...string) [32]byte {
	mark := sha256.Sum256([]byte("chain"))
	for no, b := range l {
		mark = markOf(mark, no, b)
	}
	return mark
}

// keyOf is a record's key, if its number has one.
func keyOf(no int) string { return fmt.Sprintf("r%06d", no) }

// text is a text as a value's bytes.
func text[T string | []byte](s T) string { return fmt.Sprintf("%d:%s", len(s), s) }

// marked are the bytes of the value of a record with that mark.
func marked(b string, mark [32]byte) string { return "(" + text(b) + text(mark[:]) + ")" }

// recordText are the bytes of the value of the last of these records.
func recordText(l ...string) string { return marked(l[len(l)-1], headOf(l...)) }

// recordIn is the record whose bytes are these behind so many others, if they
// are one's.
func recordIn(data []byte, ahead ...string) (string, bool) {
	m := regexp.MustCompile(`^\((\d{1,3}):`).FindSubmatch(data)
	if m == nil {
		return "", false
	}
	n, _ := strconv.Atoi(string(m[1]))
	rest := data[len(m[0]):]
	if n > 400 || n > len(rest) {
		return "", false
	}
	b := string(rest[:n])
	return b, recordText(append(slices.Clone(ahead), b)...) == string(data)
}

// chained are the records of a change's table, as far as it is whole behind
// those that are handed in, and whether nothing is at the next one.
func chained(c *tree.Change, name string, l ...string) ([]string, bool) {
	l = slices.Clone(l)
	for {
		n, e := c.Get("db", name, keyOf(len(l)))
		if e != api.OK {
			return l, true
		}
		b, ok := recordIn(n.Data, l...)
		if n.Stat.Kind != 0 || !ok {
			return l, false
		}
		l = append(l, b)
	}
}

// bench is a tree on a disk, and the table "log" of a change of it with its
// chain, if it has one; beside it, on a disk of its own, a twin.
type bench struct {
	d, twin  *block.Disk
	f, other *tree.Tree
	c, o     *tree.Change
	x, y     *table.Table
	h        *Chain
	l        []string // what the chain has
}

// journal is how long all journals are.
const journal = 500

// opened is a tree in so many nodes, in which nothing is but a root.
func opened(t *testing.T, nodes int) *bench {
	t.Helper()
	b := &bench{}
	b.d, b.f = newTree(t, nodes)
	b.twin, b.other = newTree(t, nodes)
	b.begin(t)
	return b
}

func newTree(t *testing.T, nodes int) (*block.Disk, *tree.Tree) {
	t.Helper()
	d, e := block.New(1 + journal + 1 + 9*nodes)
	errs(t, "block.New", e, api.OK)
	l, e := wal.Open(d, journal)
	errs(t, "wal.Open", e, api.OK)
	x, e := inode.Format(l, nodes)
	errs(t, "inode.Format", e, api.OK)
	f, e := tree.Open(x)
	errs(t, "tree.Open", e, api.OK)
	return d, f
}

// begin begins a change, and forgets another one.
func (b *bench) begin(t *testing.T) {
	t.Helper()
	b.c, b.o = b.f.Begin(), b.other.Begin()
	b.x, b.y = tableOf(t, b.c, "log"), tableOf(t, b.o, "log")
	b.reopen(t)
}

func tableOf(t *testing.T, c *tree.Change, name string) *table.Table {
	t.Helper()
	x, e := table.Of(c, name)
	errs(t, "table.Of", e, api.OK)
	return x
}

// reopen opens the chain that is there, and wants what the model tells.
func (b *bench) reopen(t *testing.T) api.Errno {
	t.Helper()
	whole, nothing := chained(b.o, "log")
	many := len(whole)
	_, e := b.y.Keys()
	switch {
	case e != api.OK:
		many, nothing = 0, false
	case !nothing:
		e = api.ErrSum
	}
	if n, ok := Whole(b.x); n != many || ok != nothing {
		t.Fatalf("Whole: %d, %t; want %d, %t", n, ok, many, nothing)
	}
	h, got := Open(b.x)
	errs(t, "Open", got, e)
	if (h == nil) != (e != api.OK) {
		t.Fatalf("Open: %v beside %d", h, e)
	}
	if b.h, b.l = h, nil; h != nil {
		b.l = whole
		b.tells(t, h)
	}
	b.alike(t, "Open")
	return e
}

// commit commits the change and the twin's, wants their disks to be the same,
// and begins another change of a tree that is opened again.
func (b *bench) commit(t *testing.T) {
	t.Helper()
	errs(t, "Commit", b.c.Commit(), api.OK)
	errs(t, "the twin's Commit", b.o.Commit(), api.OK)
	if !bytes.Equal(b.d.Laid(), b.twin.Laid()) {
		t.Fatal("behind Commit: the disk isn't as the twin")
	}
	l, e := wal.Open(b.d, journal)
	errs(t, "wal.Open", e, api.OK)
	x, e := inode.Open(l)
	errs(t, "inode.Open", e, api.OK)
	b.f, e = tree.Open(x)
	errs(t, "tree.Open", e, api.OK)
	b.begin(t)
}

// errs wants an error.
func errs(t *testing.T, what string, got, want api.Errno) {
	t.Helper()
	if got != want {
		t.Fatalf("%s: %d; want %d", what, got, want)
	}
}

// at is the path of that text.
func at(s string) []string { return strings.Split(s, "/") }

type plant struct {
	at   string
	s    mode.Stat
	data string
}

// file, link and dir are things of other modes and owners than a table makes.
func file(at, data string) plant {
	return plant{at, mode.Stat{Mode: 0o640, Owner: 2, Group: 3}, data}
}

func link(at, to string) plant {
	return plant{at, mode.Stat{Kind: mode.Link, Mode: 0o777, Owner: 4}, to}
}

func dir(at string) plant { return plant{at, mode.Stat{Kind: mode.Dir, Mode: 0o755, Group: 5}, ""} }

// record is a file at the place of a record's number.
func record(no int, data string) plant { return file("db/log/"+keyOf(no), data) }

// plant lays the same into both changes; what was there goes.
func (b *bench) plant(t *testing.T, l ...plant) {
	t.Helper()
	for _, x := range l {
		for _, c := range []*tree.Change{b.c, b.o} {
			c.Remove(at(x.at)...)
			errs(t, "Make "+x.at, c.Make(inode.Node{Stat: x.s, Data: []byte(x.data)}, at(x.at)...), api.OK)
		}
	}
}

// remove takes the same away from both changes.
func (b *bench) remove(t *testing.T, l ...string) {
	t.Helper()
	for _, p := range l {
		for _, c := range []*tree.Change{b.c, b.o} {
			errs(t, "Remove "+p, c.Remove(at(p)...), api.OK)
		}
	}
}

// lay plants a whole chain of these records, as files.
func (b *bench) lay(t *testing.T, l ...string) {
	t.Helper()
	b.plant(t, dir("db"), dir("db/log"))
	for no := range l {
		b.plant(t, record(no, recordText(l[:no+1]...)))
	}
}

// held is all that a change has, as a text.
func held(c *tree.Change, p ...string) string {
	n, e := c.Get(p...)
	s := fmt.Sprintf("%q %d %v %q\n", p, e, n.Stat, n.Data)
	l, _ := c.List(p...)
	for _, name := range l {
		s += held(c, append(slices.Clone(p), name)...)
	}
	return s
}

// alike wants the change to have what the twin's has.
func (b *bench) alike(t *testing.T, what string) {
	t.Helper()
	if x, y := held(b.c), held(b.o); x != y || b.c.Count() != b.o.Count() {
		t.Fatalf("%s: there is, %d more than was:\n%s\nwant, %d more:\n%s", what, b.c.Count(), x, b.o.Count(), y)
	}
}

// bytesOf are the bytes of texts.
func bytesOf(l ...string) [][]byte {
	var all [][]byte
	for _, s := range l {
		all = append(all, []byte(s))
	}
	return all
}

// add adds, and wants what the model tells, which is as many records more.
func (b *bench) add(t *testing.T, l ...string) (int, api.Errno) {
	t.Helper()
	many, want := 0, api.OK
	if slices.ContainsFunc(l, func(s string) bool { return len(s) > 400 }) {
		want = api.ErrLong
	}
	for want == api.OK && many < len(l) {
		b.l, _ = chained(b.o, "log", b.l...)
		ll := append(slices.Clone(b.l), l[many])
		v, e := codec.Decode([]byte(recordText(ll...)))
		errs(t, "Decode", e, api.OK)
		if want = b.y.Put(keyOf(len(b.l)), v); want == api.OK {
			b.l = ll
			many++
		}
	}
	what := fmt.Sprintf("Add(%.60q)", l)
	got, e := b.h.Add(bytesOf(l...)...)
	errs(t, what, e, want)
	if got != many {
		t.Fatalf("%s: %d; want %d", what, got, many)
	}
	b.alike(t, what)
	b.tells(t, b.h)
	b.alike(t, what)
	return many, want
}

// tells wants a chain to tell what the model does.
func (b *bench) tells(t *testing.T, h *Chain) {
	t.Helper()
	b.l, _ = chained(b.o, "log", b.l...)
	if h.Len() != len(b.l) || h.Head() != headOf(b.l...) {
		t.Fatalf("Len: %d, Head: %x; want %d, %x", h.Len(), h.Head(), len(b.l), headOf(b.l...))
	}
	same(t, h.All(), b.l)
	for _, no := range []int{-1 << 63, -7, -1, len(b.l), len(b.l) + 1, 999999, 1000000, 1<<63 - 1} {
		if got, e := h.Get(no); got != nil || e != api.ErrNone {
			t.Fatalf("Get(%d): %q, %d", no, got, e)
		}
	}
	for no, want := range b.l {
		if got, e := h.Get(no); string(got) != want || e != api.OK {
			t.Fatalf("Get(%d): %q, %d; want %q", no, got, e, want)
		}
	}
}

// same wants these records.
func same(t *testing.T, got [][]byte, want []string) {
	t.Helper()
	if !slices.EqualFunc(got, want, func(b []byte, s string) bool { return string(b) == s }) {
		t.Fatalf("there are %.99q; want %.99q", got, want)
	}
}
