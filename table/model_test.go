package table

import (
	"bytes"
	"fmt"
	"maps"
	"regexp"
	"slices"
	"strings"
	"testing"

	"creel/api"
	"creel/block"
	"creel/codec"
	"creel/inode"
	"creel/mode"
	"creel/tree"
	"creel/wal"
)

// What a table answers, and what a change has then, told a second time, from
// the chapter's words alone.

// thing is a node, and its number.
type thing struct {
	no   int
	stat mode.Stat
	data string
}

// model is what stands at each path of a change, by its text ("" is the
// root's), and how many nodes there are. It is copied, and not changed.
type model struct {
	nodes int
	at    map[string]thing
}

var goodName = regexp.MustCompile(`^[-a-z0-9._]{1,24}$`)

// isName tells whether a text is a name.
func isName(s string) bool { return goodName.MatchString(s) && s != "." && s != ".." }

// is tells whether something of that kind stands there.
func (m model) is(at string, kind int) bool {
	x, there := m.at[at]
	return there && x.stat.Kind == kind
}

// names are those in a directory, rising.
func (m model) names(at string) []string {
	var l []string
	for p := range m.at {
		if name, within := strings.CutPrefix(p, at+"/"); within && !strings.Contains(name, "/") {
			l = append(l, name)
		}
	}
	slices.Sort(l)
	return l
}

// of are the names of a kind in a directory; none, if nothing stands there, and
// so where something else stands on the way; ErrType, if it is no directory.
func (m model) of(at string, kind int) ([]string, api.Errno) {
	if _, there := m.at[at]; there && !m.is(at, mode.Dir) {
		return nil, api.ErrType
	}
	var l []string
	for _, name := range m.names(at) {
		if m.is(at+"/"+name, kind) {
			l = append(l, name)
		}
	}
	return l, api.OK
}

// with is the model with something more, if there is room.
func (m model) with(at string, s mode.Stat, data string) (model, bool) {
	taken := map[int]int{}
	for _, x := range m.at {
		taken[x.no]++
	}
	no := 0
	for taken[no] > 0 {
		no++
	}
	if no >= m.nodes {
		return m, false
	}
	n := model{m.nodes, maps.Clone(m.at)}
	n.at[at] = thing{no, s, data}
	if n.size(at[:strings.LastIndex(at, "/")]) > 512 {
		return m, false
	}
	return n, true
}

// size is how many bytes a directory has.
func (m model) size(at string) int {
	size := len("()")
	for _, name := range m.names(at) {
		size += len(fmt.Sprintf("(%d:%si%d;)", len(name), name, m.at[at+"/"+name].no))
	}
	return size
}

// without is the model with something less.
func (m model) without(at string) model {
	m.at = maps.Clone(m.at)
	delete(m.at, at)
	return m
}

func (m model) get(table, key string) (codec.Value, api.Errno) {
	at := "/db/" + table + "/" + key
	x, there := m.at[at]
	switch {
	case !isName(key):
		return codec.Value{}, api.ErrPath
	case !there:
		return codec.Value{}, api.ErrNone
	case x.stat.Kind != 0:
		return codec.Value{}, api.ErrForm
	}
	v, e := codec.Decode([]byte(x.data))
	if e != api.OK {
		return codec.Value{}, api.ErrForm
	}
	return v, api.OK
}

func (m model) put(table, key string, v codec.Value) (model, api.Errno) {
	if !isName(key) {
		return m, api.ErrPath
	}
	if e := codec.Check(v); e != api.OK {
		return m, e
	}
	b, _ := codec.Encode(v)
	if len(b) > 512 {
		return m, api.ErrLong
	}
	n, room := m, true
	for _, at := range []string{"/db", "/db/" + table} {
		if _, there := n.at[at]; !there && room {
			n, room = n.with(at, mode.Stat{Kind: 1, Mode: 448}, "")
		} else if there && !n.is(at, 1) {
			return m, api.ErrType
		}
	}
	at := "/db/" + table + "/" + key
	x, there := n.at[at]
	switch {
	case there && x.stat.Kind != 0:
		return m, api.ErrType
	case there:
		n = model{m.nodes, maps.Clone(m.at)}
		n.at[at] = thing{x.no, x.stat, string(b)}
	case room:
		n, room = n.with(at, mode.Stat{Kind: 0, Mode: 384}, string(b))
	}
	if !room {
		return m, api.ErrFull
	}
	return n, api.OK
}

func (m model) drop(table string, keys []string) (model, int, api.Errno) {
	for _, key := range keys {
		if !isName(key) {
			return m, 0, api.ErrPath
		}
	}
	n := m
	for _, key := range keys {
		if at := "/db/" + table + "/" + key; n.is(at, 0) {
			n = n.without(at)
		}
	}
	return n, len(m.at) - len(n.at), api.OK
}

// bench is a tree on a disk, and a change of it; beside it, on a disk of its
// own, a twin, to which the tree's calls alone do what the model tells.
type bench struct {
	d, twin  *block.Disk
	f, other *tree.Tree
	c, o     *tree.Change
	m, was   model // what the change has, and what is committed
}

// journal is how long all journals are.
const journal = 500

// planted is a tree in so many nodes, each with room for all bytes, in which
// nothing is but a root.
func planted(t *testing.T, nodes int) *bench {
	t.Helper()
	b := &bench{}
	b.d, b.f = newTree(t, nodes)
	b.twin, b.other = newTree(t, nodes)
	root, _ := b.f.Begin().Get()
	b.was = model{nodes, map[string]thing{"": {0, root.Stat, ""}}}
	b.begin()
	return b
}

func newTree(t *testing.T, nodes int) (*block.Disk, *tree.Tree) {
	t.Helper()
	d, e := block.New(1 + journal + 1 + 9*nodes)
	errs(t, "block.New", e, api.OK)
	l, e := wal.Open(d, journal)
	errs(t, "wal.Open", e, api.OK)
	x, e := inode.Format(l, nodes)
	errs(t, "inode.Format", e, api.OK)
	f, e := tree.Open(x)
	errs(t, "tree.Open", e, api.OK)
	return d, f
}

// reopened is the tree that is on a disk.
func reopened(t *testing.T, d *block.Disk) *tree.Tree {
	t.Helper()
	l, e := wal.Open(d, journal)
	errs(t, "wal.Open", e, api.OK)
	x, e := inode.Open(l)
	errs(t, "inode.Open", e, api.OK)
	f, e := tree.Open(x)
	errs(t, "tree.Open", e, api.OK)
	return f
}

// begin begins a change, and forgets another one.
func (b *bench) begin() { b.c, b.o, b.m = b.f.Begin(), b.other.Begin(), b.was }

// errs wants an error.
func errs(t *testing.T, what string, got, want api.Errno) {
	t.Helper()
	if got != want {
		t.Fatalf("%s: %d; want %d", what, got, want)
	}
}

// at is the path whose text it is, with or without its first slash.
func at(s string) []string {
	s = strings.TrimPrefix(s, "/")
	if s == "" {
		return nil
	}
	return strings.Split(s, "/")
}

// plant does to the change, by the tree's calls alone, what makes it have
// these; what is at their paths goes.
func (b *bench) plant(t *testing.T, l ...plant) {
	t.Helper()
	n := b.m
	for _, x := range l {
		p := "/" + x.at
		if _, there := n.at[p]; there {
			n = n.without(p)
			errs(t, "Remove "+p, b.c.Remove(at(p)...), api.OK)
		}
		var room bool
		if n, room = n.with(p, x.s, x.data); !room {
			t.Fatalf("no room for %s", p)
		}
		errs(t, "Make "+p, b.c.Make(inode.Node{Stat: x.s, Data: []byte(x.data)}, at(p)...), api.OK)
		b.did(t, "plant "+p, n)
	}
}

type plant struct {
	at   string
	s    mode.Stat
	data string
}

// file, link and dir are things of other modes and owners than a table makes.
func file(at, data string) plant {
	return plant{at, mode.Stat{Mode: 0o640, Owner: 2, Group: 3}, data}
}

func link(at, to string) plant {
	return plant{at, mode.Stat{Kind: mode.Link, Mode: 0o777, Owner: 4}, to}
}

func dir(at string) plant { return plant{at, mode.Stat{Kind: mode.Dir, Mode: 0o755, Group: 5}, ""} }

// did does to the twin what makes it another model, which the change is then
// wanted to tell of.
func (b *bench) did(t *testing.T, what string, n model) {
	t.Helper()
	other := func(x, y thing) bool { return x.no != y.no || x.stat != y.stat }
	for p, was := range b.m.at {
		if x, there := n.at[p]; !there || other(x, was) {
			errs(t, what+": the twin's Remove", b.o.Remove(at(p)...), api.OK)
		}
	}
	for _, p := range slices.SortedFunc(maps.Keys(n.at), func(p, q string) int { return len(p) - len(q) }) {
		was, there := b.m.at[p]
		x := n.at[p]
		switch {
		case !there || other(x, was):
			errs(t, what+": the twin's Make", b.o.Make(inode.Node{Stat: x.stat, Data: []byte(x.data)}, at(p)...), api.OK)
		case was.data != x.data:
			errs(t, what+": the twin's Put", b.o.Put([]byte(x.data), at(p)...), api.OK)
		}
	}
	b.m = n
	tells(t, what, b.c, b.m)
	if b.c.Count() != b.o.Count() {
		t.Fatalf("%s: Count: %d; the twin's %d", what, b.c.Count(), b.o.Count())
	}
}

// tells wants a change to have what a model does, and nothing else.
func tells(t *testing.T, what string, c *tree.Change, m model) {
	t.Helper()
	for p, x := range m.at {
		n, e := c.Get(at(p)...)
		if e != api.OK || n.Stat != x.stat || string(n.Data) != x.data {
			t.Fatalf("%s: at %q: %v, %d; want %v", what, p, n, e, x)
		}
		if x.stat.Kind != 1 {
			continue
		}
		if l, e := c.List(at(p)...); e != api.OK || !slices.Equal(l, m.names(p)) {
			t.Fatalf("%s: in %q: %q, %d; want %q", what, p, l, e, m.names(p))
		}
	}
}

// of is the table of that name.
func (b *bench) of(t *testing.T, name string) *Table {
	t.Helper()
	x, e := Of(b.c, name)
	if e != api.OK || x == nil {
		t.Fatalf("Of(%q): %v, %d", name, x, e)
	}
	return x
}

// put puts, and wants what the model tells.
func (b *bench) put(t *testing.T, table, key string, v codec.Value) api.Errno {
	t.Helper()
	what := fmt.Sprintf("%s: Put(%q, %v)", table, key, v)
	n, want := b.m.put(table, key, v)
	errs(t, what, b.of(t, table).Put(key, v), want)
	b.did(t, what, n)
	b.asked(t, table, key)
	return want
}

// drop drops, and wants what the model tells.
func (b *bench) drop(t *testing.T, table string, keys ...string) (int, api.Errno) {
	t.Helper()
	what := fmt.Sprintf("%s: Drop(%q)", table, keys)
	n, many, want := b.m.drop(table, keys)
	got, e := b.of(t, table).Drop(keys...)
	errs(t, what, e, want)
	if got != many {
		t.Fatalf("%s: %d; want %d", what, got, many)
	}
	b.did(t, what, n)
	b.asked(t, table, keys...)
	return many, want
}

// asked asks a table all there is to ask, and of these keys and all that it
// has, and wants what the model tells.
func (b *bench) asked(t *testing.T, table string, keys ...string) {
	t.Helper()
	x, of := b.of(t, table), "/db/"+table
	for _, key := range append(b.m.names(of), keys...) {
		v, e := x.Get(key)
		want, err := b.m.get(table, key)
		if e != err || !codec.Same(v, want) {
			t.Fatalf("%s: Get(%q): %v, %d; want %v, %d", table, key, v, e, want, err)
		}
		if x.Has(key) != (err == api.OK) {
			t.Fatalf("%s: Has(%q): %v beside %d", table, key, x.Has(key), err)
		}
	}
	l, e := x.Keys()
	want, err := b.m.of(of, mode.File)
	if e != err || !slices.Equal(l, want) {
		t.Fatalf("%s: Keys: %q, %d; want %q, %d", table, l, e, want, err)
	}
	want = slices.DeleteFunc(want, func(key string) bool { _, e := b.m.get(table, key); return e != api.OK })
	var told []string
	e = x.Each(func(key string, v codec.Value) bool {
		told = append(told, key)
		if want, _ := b.m.get(table, key); !codec.Same(v, want) {
			t.Fatalf("%s: Each: %q has %v; want %v", table, key, v, want)
		}
		return true
	})
	if e != err || !slices.Equal(told, want) {
		t.Fatalf("%s: Each: %q, %d; want %q, %d", table, told, e, want, err)
	}
	l, e = Tables(b.c)
	if want, err := b.m.of("/db", mode.Dir); e != err || !slices.Equal(l, want) {
		t.Fatalf("Tables: %q, %d; want %q, %d", l, e, want, err)
	}
}

// commit commits the change and the twin's, wants their disks to be the same
// and a tree that is opened again to tell the same, and begins another change.
func (b *bench) commit(t *testing.T) {
	t.Helper()
	errs(t, "Commit", b.c.Commit(), api.OK)
	errs(t, "the twin's Commit", b.o.Commit(), api.OK)
	if !bytes.Equal(b.d.Laid(), b.twin.Laid()) {
		t.Fatal("behind Commit: the disk isn't as the twin")
	}
	b.was = b.m
	tells(t, "opened again", reopened(t, b.d).Begin(), b.m)
	b.begin()
}
