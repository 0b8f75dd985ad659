package store

import (
	"bytes"
	"crypto/sha256"
	"encoding/binary"
	"encoding/hex"
	"fmt"
	"reflect"
	"regexp"
	"slices"
	"strconv"
	"strings"
	"testing"

	"creel/api"
	"creel/block"
	"creel/codec"
	"creel/inode"
	"creel/mode"
	"creel/table"
	"creel/tree"
	"creel/wal"
)

// What a store answers, told a second time from the chapter's words, by texts;
// what stands in the tables is told by a twin, in which the tables' calls alone
// do what the model tells.

var goodName = regexp.MustCompile(`^[-a-z0-9._]{1,24}$`)

// isName tells whether a text is a name.
func isName(s string) bool { return goodName.MatchString(s) && s != "." && s != ".." }

// refusal is Check's error.
func refusal(p Package) api.Errno {
	if !isName(p.Name) || !isName(p.Publisher) {
		return api.ErrPath
	}
	if n := len(p.Revs); n == 0 || n > 3 {
		return api.ErrLong
	}
	active := false
	for i, r := range p.Revs {
		if r.No < 1 || r.No > 999999 || r.Size < 0 || r.Size > 131072 {
			return api.ErrArg
		}
		if i > 0 && p.Revs[i-1].No >= r.No {
			return api.ErrArg
		}
		active = active || r.No == p.Active
	}
	if !active {
		return api.ErrNone
	}
	return api.OK
}

// isConn tells whether a connection is right.
func isConn(c Conn) bool {
	return isName(c.Plug[0]) && isName(c.Plug[1]) && isName(c.Slot[0]) && isName(c.Slot[1]) && isName(c.Interface)
}

// keyOf is a connection's key.
func keyOf(c Conn) string {
	h := sha256.New()
	for _, text := range []string{c.Plug[0], c.Plug[1], c.Slot[0], c.Slot[1]} {
		binary.Write(h, binary.BigEndian, uint32(len(text)))
		h.Write([]byte(text))
	}
	return "c" + hex.EncodeToString(h.Sum(nil))[:16]
}

// text is a text as a value's bytes.
func text(s string) string { return fmt.Sprintf("%d:%s", len(s), s) }

// packageText are the bytes of a package's value.
func packageText(p Package) string {
	revs := ""
	for _, r := range p.Revs {
		revs += fmt.Sprintf("(i%d;%si%d;)", r.No, text(string(r.Seal[:])), r.Size)
	}
	return fmt.Sprintf("(%si%d;(%s))", text(p.Publisher), p.Active, revs)
}

// connText are the bytes of a connection's value.
func connText(c Conn) string {
	return "(" + text(c.Plug[0]) + text(c.Plug[1]) + text(c.Slot[0]) + text(c.Slot[1]) + text(c.Interface) + ")"
}

var (
	revForm     = `\(i(-?\d+);32:(.{32})i(-?\d+);\)`
	oneRev      = regexp.MustCompile(`(?s)` + revForm)
	packageForm = regexp.MustCompile(`(?s)^\(\d+:([^:]*?)i(-?\d+);\(((?:` + revForm + `)*)\)\)$`)
)

// runes has one sign for each byte, so that signs are counted as bytes are.
func runes(b []byte) string {
	l := make([]rune, 0, len(b))
	for _, x := range b {
		l = append(l, rune(x))
	}
	return string(l)
}

// plainBytes is the way back.
func plainBytes(s string) []byte {
	var l []byte
	for _, x := range s {
		l = append(l, byte(x))
	}
	return l
}

// packageIn is the package that a value's bytes are under a name, if they are a
// right one's.
func packageIn(name string, data []byte) (Package, bool) {
	m := packageForm.FindStringSubmatch(runes(data))
	if m == nil {
		return Package{}, false
	}
	p := Package{Name: name, Publisher: m[1]}
	p.Active, _ = strconv.Atoi(m[2])
	for _, m := range oneRev.FindAllStringSubmatch(m[3], -1) {
		var r Rev
		r.No, _ = strconv.Atoi(m[1])
		copy(r.Seal[:], plainBytes(m[2]))
		r.Size, _ = strconv.Atoi(m[3])
		p.Revs = append(p.Revs, r)
	}
	return p, refusal(p) == api.OK && packageText(p) == string(data)
}

// connIn is the connection that a value's bytes are, if they are a right one's,
// under its key.
func connIn(key string, data []byte) (Conn, bool) {
	var l []string
	for rest := strings.TrimSuffix(strings.TrimPrefix(string(data), "("), ")"); rest != ""; {
		size, more, _ := strings.Cut(rest, ":")
		n, e := strconv.Atoi(size)
		if e != nil || n < 0 || n > len(more) {
			return Conn{}, false
		}
		l, rest = append(l, more[:n]), more[n:]
	}
	if len(l) != 5 {
		return Conn{}, false
	}
	c := Conn{[2]string{l[0], l[1]}, [2]string{l[2], l[3]}, l[4]}
	return c, isConn(c) && connText(c) == string(data) && keyOf(c) == key
}

// bench is a tree on a disk, and a store of a change of it; beside it, on a disk
// of its own, a twin.
type bench struct {
	d, twin  *block.Disk
	f, other *tree.Tree
	c, o     *tree.Change
	s        *Store
}

// journal is how long all journals are.
const journal = 500

// opened is a tree in so many nodes, in which nothing is but a root.
func opened(t *testing.T, nodes int) *bench {
	t.Helper()
	b := &bench{}
	b.d, b.f = newTree(t, nodes)
	b.twin, b.other = newTree(t, nodes)
	b.begin(t)
	return b
}

func newTree(t *testing.T, nodes int) (*block.Disk, *tree.Tree) {
	t.Helper()
	d, e := block.New(1 + journal + 1 + 9*nodes)
	errs(t, "block.New", e, api.OK)
	l, e := wal.Open(d, journal)
	errs(t, "wal.Open", e, api.OK)
	x, e := inode.Format(l, nodes)
	errs(t, "inode.Format", e, api.OK)
	f, e := tree.Open(x)
	errs(t, "tree.Open", e, api.OK)
	return d, f
}

// begin begins a change, and forgets another one.
func (b *bench) begin(t *testing.T) {
	t.Helper()
	b.c, b.o = b.f.Begin(), b.other.Begin()
	var e api.Errno
	if b.s, e = Of(b.c); e != api.OK || b.s == nil {
		t.Fatalf("Of: %v, %d", b.s, e)
	}
}

// commit commits the change and the twin's, wants their disks to be the same,
// and begins another change of a tree that is opened again.
func (b *bench) commit(t *testing.T) {
	t.Helper()
	errs(t, "Commit", b.c.Commit(), api.OK)
	errs(t, "the twin's Commit", b.o.Commit(), api.OK)
	if !bytes.Equal(b.d.Laid(), b.twin.Laid()) {
		t.Fatal("behind Commit: the disk isn't as the twin")
	}
	l, e := wal.Open(b.d, journal)
	errs(t, "wal.Open", e, api.OK)
	x, e := inode.Open(l)
	errs(t, "inode.Open", e, api.OK)
	b.f, e = tree.Open(x)
	errs(t, "tree.Open", e, api.OK)
	b.begin(t)
	b.asked(t)
}

// errs wants an error.
func errs(t *testing.T, what string, got, want api.Errno) {
	t.Helper()
	if got != want {
		t.Fatalf("%s: %d; want %d", what, got, want)
	}
}

// packages and conns are the twin's tables.
func (b *bench) packages() *table.Table { x, _ := table.Of(b.o, "sys.packages"); return x }
func (b *bench) conns() *table.Table    { x, _ := table.Of(b.o, "sys.connections"); return x }

// at is the path of that text.
func at(s string) []string {
	if s == "" {
		return nil
	}
	return strings.Split(s, "/")
}

// plant lays the same into both changes; what was there goes.
func (b *bench) plant(t *testing.T, l ...plant) {
	t.Helper()
	for _, x := range l {
		errs(t, "Make "+x.at, b.lay(x), api.OK)
	}
}

// lay lays one thing into both changes, if there is room.
func (b *bench) lay(x plant) api.Errno {
	e := api.OK
	for _, c := range []*tree.Change{b.c, b.o} {
		c.Remove(at(x.at)...)
		e = c.Make(inode.Node{Stat: x.s, Data: []byte(x.data)}, at(x.at)...)
	}
	return e
}

type plant struct {
	at   string
	s    mode.Stat
	data string
}

// The places of the tables, and of a key within.
const (
	packagesAt = "db/sys.packages"
	connsAt    = "db/sys.connections"
)

// file, link and dir are things of other modes and owners than a table makes.
func file(at, data string) plant {
	return plant{at, mode.Stat{Mode: 0o640, Owner: 2, Group: 3}, data}
}

func link(at, to string) plant {
	return plant{at, mode.Stat{Kind: mode.Link, Mode: 0o777, Owner: 4}, to}
}

func dir(at string) plant { return plant{at, mode.Stat{Kind: mode.Dir, Mode: 0o755, Group: 5}, ""} }

// dirs are those of both tables.
func dirs() []plant { return []plant{dir("db"), dir(packagesAt), dir(connsAt)} }

// whole is all that a change has, as a text.
func whole(c *tree.Change, p ...string) string {
	n, e := c.Get(p...)
	s := fmt.Sprintf("%q %d %v %q\n", p, e, n.Stat, n.Data)
	l, _ := c.List(p...)
	for _, name := range l {
		s += whole(c, append(slices.Clone(p), name)...)
	}
	return s
}

// alike wants the change to have what the twin's has.
func (b *bench) alike(t *testing.T, what string) {
	t.Helper()
	if x, y := whole(b.c), whole(b.o); x != y || b.c.Count() != b.o.Count() {
		t.Fatalf("%s: there is, %d more than was:\n%s\nwant, %d more:\n%s", what, b.c.Count(), x, b.o.Count(), y)
	}
}

// save saves, and wants what the model tells.
func (b *bench) save(t *testing.T, p Package) api.Errno {
	t.Helper()
	want := refusal(p)
	if want == api.OK {
		want = b.packages().Put(p.Name, value(t, packageText(p)))
	}
	what := fmt.Sprintf("Save(%v)", p)
	errs(t, what, b.s.Save(p), want)
	b.alike(t, what)
	b.asked(t, p.Name)
	return want
}

// value is that of a value's bytes.
func value(t *testing.T, data string) codec.Value {
	t.Helper()
	v, e := codec.Decode([]byte(data))
	errs(t, "Decode "+data, e, api.OK)
	return v
}

// drop drops, and wants what the model tells.
func (b *bench) drop(t *testing.T, names ...string) (int, api.Errno) {
	t.Helper()
	many, want := b.packages().Drop(names...)
	what := fmt.Sprintf("Drop(%q)", names)
	got, e := b.s.Drop(names...)
	errs(t, what, e, want)
	if got != many {
		t.Fatalf("%s: %d; want %d", what, got, many)
	}
	b.alike(t, what)
	b.asked(t, names...)
	return many, want
}

// connect connects, and wants what the model tells.
func (b *bench) connect(t *testing.T, c Conn) api.Errno {
	t.Helper()
	want := api.ErrPath
	if isConn(c) {
		keys, _ := b.conns().Keys()
		want = api.ErrTwice
		if !slices.Contains(keys, keyOf(c)) {
			want = b.conns().Put(keyOf(c), value(t, connText(c)))
		}
	}
	what := fmt.Sprintf("Connect(%v)", c)
	errs(t, what, b.s.Connect(c), want)
	b.alike(t, what)
	b.asked(t)
	return want
}

// disconnect disconnects, and wants what the model tells.
func (b *bench) disconnect(t *testing.T, c Conn) api.Errno {
	t.Helper()
	want := api.ErrPath
	if isConn(c) {
		n, e := b.conns().Drop(keyOf(c))
		if want = e; e == api.OK && n == 0 {
			want = api.ErrNone
		}
	}
	what := fmt.Sprintf("Disconnect(%v)", c)
	errs(t, what, b.s.Disconnect(c), want)
	b.alike(t, what)
	b.asked(t)
	return want
}

// asked asks the store all there is to ask, and of these names and all keys,
// and wants what the model tells; nothing is changed by that.
func (b *bench) asked(t *testing.T, names ...string) {
	t.Helper()
	keys, all := b.packages().Keys()
	var want []Package
	for _, name := range append(keys, names...) {
		p, e := b.packageAt(name)
		if q, err := b.s.Package(name); err != e || !reflect.DeepEqual(p, q) {
			t.Fatalf("Package(%q): %v, %d; want %v, %d", name, q, err, p, e)
		}
		if slices.Contains(keys, name) && all == api.OK {
			all = e
		}
	}
	for _, name := range keys {
		if p, _ := b.packageAt(name); all == api.OK {
			want = append(want, p)
		}
	}
	l, e := b.s.Packages()
	errs(t, "Packages", e, all)
	if len(l) != len(want) || len(l) > 0 && !reflect.DeepEqual(l, want) {
		t.Fatalf("Packages: %v; want %v", l, want)
	}
	b.ends(t)
	for _, name := range []string{"a", "b", "none"} {
		b.ends(t, name)
	}
	b.ends(t, "b", "a", "b", "", "A")
	b.alike(t, "asked")
}

// packageAt is what Package answers.
func (b *bench) packageAt(name string) (Package, api.Errno) {
	if _, e := b.packages().Get(name); e != api.OK {
		return Package{}, e
	}
	n, _ := b.o.Get(append(at(packagesAt), name)...)
	if p, ok := packageIn(name, n.Data); ok {
		return p, api.OK
	}
	return Package{}, api.ErrForm
}

// ends asks for the connections of packages, and wants what the model tells.
func (b *bench) ends(t *testing.T, packages ...string) []Conn {
	t.Helper()
	keys, want := b.conns().Keys()
	var l []Conn
	for _, key := range keys {
		n, _ := b.o.Get(append(at(connsAt), key)...)
		c, ok := connIn(key, n.Data)
		if ok && (len(packages) == 0 || slices.Contains(packages, c.Plug[0]) || slices.Contains(packages, c.Slot[0])) {
			l = append(l, c)
		}
	}
	got, e := b.s.Conns(packages...)
	errs(t, fmt.Sprintf("Conns(%q)", packages), e, want)
	if !slices.Equal(got, l) {
		t.Fatalf("Conns(%q): %q; want %q", packages, got, l)
	}
	return got
}
