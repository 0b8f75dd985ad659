package tree

import (
	"bytes"
	"fmt"
	"maps"
	"regexp"
	"slices"
	"strings"
	"testing"

	"creel/api"
	"creel/block"
	"creel/inode"
	"creel/mode"
	"creel/path"
	"creel/wal"
)

// What a tree has, told a second time, from the chapter's words alone.

// model is which node stands at each path, by its text ("" is the root's), and
// the nodes of the table; nil ones are free, and directories are without bytes.
type model struct {
	at    map[string]int
	nodes []*inode.Node
}

// newModel is a root alone, in a table of so many nodes.
func newModel(nodes int) *model {
	m := &model{map[string]int{"": 0}, make([]*inode.Node, nodes)}
	m.nodes[0] = &inode.Node{Stat: mode.Stat{Kind: 1, Mode: 493}}
	return m
}

func (m *model) copy() *model { return &model{maps.Clone(m.at), slices.Clone(m.nodes)} }

// text is a path's, but that of no names is empty.
func text(p []string) string {
	s := ""
	for _, name := range p {
		s += "/" + name
	}
	return s
}

var name = regexp.MustCompile(`^[-a-z0-9._]{1,24}$`)

// isPath tells whether a list is a path.
func isPath(p []string) bool {
	for _, x := range p {
		if !name.MatchString(x) || x == "." || x == ".." {
			return false
		}
	}
	return len(p) < 9
}

func (m *model) node(p []string) *inode.Node { return m.nodes[m.at[text(p)]] }

// goes goes a path.
func (m *model) goes(p []string) api.Errno {
	if !isPath(p) {
		return api.ErrPath
	}
	for i := range p {
		if m.node(p[:i]).Stat.Kind != 1 {
			return api.ErrType
		}
		if _, is := m.at[text(p[:i+1])]; !is {
			return api.ErrNone
		}
	}
	return api.OK
}

// follows follows a path, over so many links at most.
func (m *model) follows(p []string, links int) ([]string, api.Errno) {
	if !isPath(p) {
		return nil, api.ErrPath
	}
	for i := 1; i <= len(p); i++ {
		if e := m.goes(p[:i]); e != api.OK {
			return nil, e
		}
		n := m.node(p[:i])
		if n.Stat.Kind != 2 {
			continue
		}
		if links == 0 {
			return nil, api.ErrLoop
		}
		to, e := path.Lead(p[:i-1], string(n.Data))
		if e != api.OK {
			return nil, e
		}
		return m.follows(slices.Concat(to, p[i:]), links-1)
	}
	return p, api.OK
}

// names are those in a directory.
func (m *model) names(p []string) []string {
	var l []string
	for at := range m.at {
		if x, within := strings.CutPrefix(at, text(p)+"/"); within && !strings.Contains(x, "/") {
			l = append(l, x)
		}
	}
	slices.Sort(l)
	return l
}

// coded are the bytes of a directory that has these names as well.
func (m *model) coded(p []string, more map[string]int, but ...string) string {
	at := maps.Clone(more)
	if at == nil {
		at = map[string]int{}
	}
	for _, x := range m.names(p) {
		if !slices.Contains(but, x) {
			at[x] = m.at[text(p)+"/"+x]
		}
	}
	s := "("
	for _, x := range slices.Sorted(maps.Keys(at)) {
		s += fmt.Sprintf("(%d:%si%d;)", len(x), x, at[x])
	}
	return s + ")"
}

// table is the nodes as they are in the table, directories with their bytes.
func (m *model) table() []*inode.Node {
	l := slices.Clone(m.nodes)
	for at, no := range m.at {
		if n := *l[no]; n.Stat.Kind == 1 {
			n.Data = []byte(m.coded(split(at), nil))
			l[no] = &n
		}
	}
	return l
}

// split is the path whose text it is.
func split(at string) []string {
	if at == "" {
		return nil
	}
	return strings.Split(at[1:], "/")
}

// turned are the changes that make one table another one, rising by numbers.
func turned(ahead, behind []*inode.Node) []inode.Change {
	var l []inode.Change
	for no, n := range behind {
		was := ahead[no]
		switch {
		case n == nil && was != nil:
			l = append(l, inode.Change{No: no, Drop: true})
		case n != nil && (was == nil || was.Stat != n.Stat || !bytes.Equal(was.Data, n.Data)):
			l = append(l, inode.Change{No: no, Node: *n})
		}
	}
	return l
}

// wrong is what is wrong with a stat.
func wrong(s mode.Stat) api.Errno {
	switch {
	case s.Kind < 0 || s.Kind > 4:
		return api.ErrType
	case s.Mode < 0 || s.Mode > 4095:
		return api.ErrMode
	case min(s.Owner, s.Group) < 0 || max(s.Owner, s.Group) > 65535:
		return api.ErrArg
	}
	return api.OK
}

// ahead goes to the directory that a path's last name is to be in, which
// isn't there yet.
func (m *model) ahead(p []string) api.Errno {
	up := p[:len(p)-1]
	if e := m.goes(up); e != api.OK {
		return e
	}
	if m.node(up).Stat.Kind != 1 {
		return api.ErrType
	}
	if _, is := m.at[text(p)]; is {
		return api.ErrTwice
	}
	return api.OK
}

func (m *model) make(n inode.Node, p []string) api.Errno {
	if !isPath(p) || len(p) == 0 {
		return api.ErrPath
	}
	if k := n.Stat.Kind; k != 0 && k != 1 && k != 2 || k == 1 && len(n.Data) > 0 {
		return api.ErrType
	}
	if e := wrong(n.Stat); e != api.OK {
		return e
	}
	if len(n.Data) > 512 {
		return api.ErrLong
	}
	if e := m.ahead(p); e != api.OK {
		return e
	}
	no := slices.Index(m.nodes, nil)
	if no < 0 || len(m.coded(p[:len(p)-1], map[string]int{p[len(p)-1]: no})) > 512 {
		return api.ErrFull
	}
	m.at[text(p)], m.nodes[no] = no, &inode.Node{Stat: n.Stat, Data: bytes.Clone(n.Data)}
	return api.OK
}

func (m *model) put(data []byte, p []string) api.Errno {
	if e := m.goes(p); e != api.OK {
		return e
	}
	n := *m.node(p)
	if n.Stat.Kind == 1 {
		return api.ErrType
	}
	if len(data) > 512 {
		return api.ErrLong
	}
	n.Data = bytes.Clone(data)
	m.nodes[m.at[text(p)]] = &n
	return api.OK
}

func (m *model) set(s mode.Stat, p []string) api.Errno {
	if e := wrong(s); e != api.OK {
		return e
	}
	if e := m.goes(p); e != api.OK {
		return e
	}
	n := *m.node(p)
	if n.Stat.Kind != s.Kind {
		return api.ErrType
	}
	n.Stat = s
	m.nodes[m.at[text(p)]] = &n
	return api.OK
}

func (m *model) remove(p []string) api.Errno {
	if len(p) == 0 {
		return api.ErrPath
	}
	if e := m.goes(p); e != api.OK {
		return e
	}
	if len(m.names(p)) > 0 {
		return api.ErrBusy
	}
	m.nodes[m.at[text(p)]] = nil
	delete(m.at, text(p))
	return api.OK
}

func (m *model) rename(from, to []string) api.Errno {
	if !isPath(from) || !isPath(to) || len(from) == 0 || len(to) == 0 || strings.HasPrefix(text(to)+"/", text(from)+"/") {
		return api.ErrPath
	}
	if e := m.goes(from); e != api.OK {
		return e
	}
	if e := m.ahead(to); e != api.OK {
		return e
	}
	moved := maps.Clone(m.at)
	for at, no := range m.at {
		if rest, within := strings.CutPrefix(at+"/", text(from)+"/"); within {
			if len(to)+strings.Count(rest, "/") > 8 {
				return api.ErrPath
			}
			delete(moved, at)
			moved[strings.TrimSuffix(text(to)+"/"+rest, "/")] = no
		}
	}
	out, in := from[:len(from)-1], to[:len(to)-1]
	var gone []string
	if slices.Equal(out, in) {
		gone = from[len(out):]
	}
	if len(m.coded(in, map[string]int{to[len(in)]: m.at[text(from)]}, gone...)) > 512 {
		return api.ErrFull
	}
	m.at = moved
	return api.OK
}

// errs wants an error.
func errs(t *testing.T, what string, got, want api.Errno) {
	t.Helper()
	if got != want {
		t.Fatalf("%s: %d; want %d", what, got, want)
	}
}

// same wants a node to have a stat and bytes, but a directory none.
func same(t *testing.T, what string, got inode.Node, want *inode.Node) {
	t.Helper()
	if want.Stat.Kind == 1 && got.Data != nil || !inode.Same(got, *want) {
		t.Fatalf("%s: %v; want %v", what, got, *want)
	}
}

// bench is a tree with all that it is on; beside it, on a disk of its own, a
// table to which the nodes are applied that the model tells.
type bench struct {
	d, twin  *block.Disk
	l        *wal.Log
	x, other *inode.Table
	f        *Tree
	m        *model
	journal  int
	c        *Change
	now      *model // what the change has
	writes   int    // how often the disk was written to when it began
}

// newTable is a new table of so many nodes and blocks.
func newTable(t *testing.T, journal, nodes, blocks int) (*block.Disk, *wal.Log, *inode.Table) {
	t.Helper()
	d, e := block.New(1 + journal + 1 + nodes + blocks)
	errs(t, "block.New", e, api.OK)
	l, e := wal.Open(d, journal)
	errs(t, "wal.Open", e, api.OK)
	x, e := inode.Format(l, nodes)
	errs(t, "inode.Format", e, api.OK)
	return d, l, x
}

// planted is a new tree, in a table of so many nodes and blocks, with a change
// that was begun.
func planted(t *testing.T, journal, nodes, blocks int) *bench {
	t.Helper()
	b := &bench{m: newModel(nodes), journal: journal}
	b.d, b.l, b.x = newTable(t, journal, nodes, blocks)
	b.twin, _, b.other = newTable(t, journal, nodes, blocks)
	var e api.Errno
	b.f, e = Open(b.x)
	errs(t, "Open", e, api.OK)
	errs(t, "the twin's root", b.other.Apply(turned(make([]*inode.Node, nodes), b.m.table())...), api.OK)
	b.begin()
	return b
}

// begin begins a change, and forgets another one.
func (b *bench) begin() { b.c, b.now, b.writes = b.f.Begin(), b.m.copy(), b.d.Writes() }

// did wants what was done to have the error that the model tells, and the
// change to tell what the model does; nothing is written.
func (b *bench) did(t *testing.T, what string, got, want api.Errno) api.Errno {
	t.Helper()
	errs(t, what, got, want)
	tells(t, what, b.c, b.now)
	if n := len(turned(b.m.table(), b.now.table())); b.c.Count() != n {
		t.Fatalf("%s: Count: %d; want %d", what, b.c.Count(), n)
	}
	if b.d.Writes() != b.writes {
		t.Fatalf("%s: the disk is written to", what)
	}
	return got
}

func (b *bench) make(t *testing.T, n inode.Node, p ...string) api.Errno {
	t.Helper()
	return b.did(t, fmt.Sprintf("Make(%v, %d bytes, %q)", n.Stat, len(n.Data), p), b.c.Make(n, p...), b.now.make(n, p))
}

func (b *bench) put(t *testing.T, data []byte, p ...string) api.Errno {
	t.Helper()
	return b.did(t, fmt.Sprintf("Put(%d bytes, %q)", len(data), p), b.c.Put(data, p...), b.now.put(data, p))
}

func (b *bench) set(t *testing.T, s mode.Stat, p ...string) api.Errno {
	t.Helper()
	return b.did(t, fmt.Sprintf("Set(%v, %q)", s, p), b.c.Set(s, p...), b.now.set(s, p))
}

func (b *bench) remove(t *testing.T, p ...string) api.Errno {
	t.Helper()
	return b.did(t, fmt.Sprintf("Remove(%q)", p), b.c.Remove(p...), b.now.remove(p))
}

func (b *bench) rename(t *testing.T, from, to []string) api.Errno {
	t.Helper()
	return b.did(t, fmt.Sprintf("Rename(%q, %q)", from, to), b.c.Rename(from, to), b.now.rename(from, to))
}

// commit commits, and wants the disk to be as the twin is, to which the nodes
// that the model tells were applied; if there is no error, a change is begun.
func (b *bench) commit(t *testing.T) api.Errno {
	t.Helper()
	want := b.other.Apply(turned(b.m.table(), b.now.table())...)
	errs(t, "Commit", b.c.Commit(), want)
	if !bytes.Equal(b.d.Laid(), b.twin.Laid()) {
		t.Fatal("behind Commit: the disk isn't as the twin")
	}
	if want == api.OK {
		if b.c.Count() != 0 {
			t.Fatalf("Count: %d, committed", b.c.Count())
		}
		b.m = b.now
		b.begin()
	}
	b.stands(t)
	return want
}

// stands wants the tree to tell what the model does, and one that is opened
// again, from the disk on, too; that writes nothing.
func (b *bench) stands(t *testing.T) {
	t.Helper()
	walks(t, "the tree", b.f, b.m)
	laid, writes := b.d.Laid(), b.d.Writes()
	f := reopened(t, b.d, b.journal)
	walks(t, "opened again", f, b.m)
	tells(t, "opened again", f.Begin(), b.m)
	if !bytes.Equal(b.d.Laid(), laid) || b.d.Writes() != writes {
		t.Fatal("opening again: the disk isn't as it was")
	}
}

// reopened is the tree that is on a disk.
func reopened(t *testing.T, d *block.Disk, journal int) *Tree {
	t.Helper()
	l, e := wal.Open(d, journal)
	errs(t, "wal.Open", e, api.OK)
	x, e := inode.Open(l)
	errs(t, "inode.Open", e, api.OK)
	f, e := Open(x)
	errs(t, "Open", e, api.OK)
	return f
}

// paths are all, shorter ones ahead of those that they begin, else by the first
// unlike name.
func (m *model) paths() [][]string {
	var l [][]string
	for at := range m.at {
		l = append(l, split(at))
	}
	slices.SortFunc(l, slices.Compare)
	return l
}

// walks wants what Walk answers.
func walks(t *testing.T, what string, f *Tree, m *model) {
	t.Helper()
	got, want := f.Walk(), m.paths()[1:]
	if len(got) != len(want) {
		t.Fatalf("%s: Walk: %v; want %v", what, got, want)
	}
	for i, p := range want {
		if !slices.Equal(got[i].Path, p) {
			t.Fatalf("%s: Walk: item %d is %q; want %q", what, i, got[i].Path, p)
		}
		same(t, fmt.Sprintf("%s: Walk: %q", what, p), got[i].Node, m.node(p))
	}
}

// tells wants a change to tell of each path that there is, and of some that
// there aren't, what the model does.
func tells(t *testing.T, what string, c *Change, m *model) {
	t.Helper()
	for _, p := range m.paths() {
		told(t, what, c, m, p)
		told(t, what, c, m, append(p, "none"))
	}
}

// told wants what a change tells of a path.
func told(t *testing.T, what string, c *Change, m *model, p []string) {
	t.Helper()
	n, e := c.Get(p...)
	want := m.goes(p)
	errs(t, fmt.Sprintf("%s: Get(%q)", what, p), e, want)
	l, e := c.List(p...)
	if want != api.OK {
		errs(t, fmt.Sprintf("%s: List(%q)", what, p), e, want)
		if n.Stat != (mode.Stat{}) || n.Data != nil || l != nil {
			t.Fatalf("%s: Get and List(%q): %v, %v beside %d", what, p, n, l, want)
		}
	} else {
		same(t, fmt.Sprintf("%s: Get(%q)", what, p), n, m.node(p))
		if m.node(p).Stat.Kind != 1 {
			want = api.ErrType
		}
		if e != want || !slices.Equal(l, m.names(p)) {
			t.Fatalf("%s: List(%q): %q, %d; want %q, %d", what, p, l, e, m.names(p), want)
		}
	}
	followed(t, what, c, m, p)
}

// followed wants what Follow answers.
func followed(t *testing.T, what string, c *Change, m *model, p []string) {
	t.Helper()
	got, n, e := c.Follow(p...)
	to, want := m.follows(p, 8)
	if e != want || !slices.Equal(got, to) {
		t.Fatalf("%s: Follow(%q): %q, %d; want %q, %d", what, p, got, e, to, want)
	}
	if e == api.OK {
		same(t, fmt.Sprintf("%s: Follow(%q)", what, p), n, m.node(to))
	} else if n.Stat != (mode.Stat{}) || n.Data != nil || got != nil {
		t.Fatalf("%s: Follow(%q): %v, %v beside %d", what, p, got, n, e)
	}
}

// file, link and dir are nodes.
func file(s string) inode.Node {
	return inode.Node{Stat: mode.Stat{Mode: 0o640, Owner: 2, Group: 3}, Data: []byte(s)}
}

func link(s string) inode.Node {
	return inode.Node{Stat: mode.Stat{Kind: mode.Link, Mode: 0o777, Owner: 4}, Data: []byte(s)}
}

func dir() inode.Node { return inode.Node{Stat: mode.Stat{Kind: mode.Dir, Mode: 0o700, Group: 5}} }

// at is the path whose text it is, without its first slash.
func at(s string) []string {
	if s == "" {
		return nil
	}
	return strings.Split(s, "/")
}

// plant makes each of these, and commits.
func (b *bench) plant(t *testing.T, l ...plant) {
	t.Helper()
	for _, x := range l {
		errs(t, "Make "+x.at, b.make(t, x.n, at(x.at)...), api.OK)
	}
	errs(t, "Commit", b.commit(t), api.OK)
}

type plant struct {
	at string
	n  inode.Node
}
