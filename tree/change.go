package tree

import (
	"maps"
	"slices"

	"creel/api"
	"creel/inode"
	"creel/mode"
	"creel/path"
)

// mostLinks are the links that are followed on the way of one path.
const mostLinks = 8

// Change is a transaction: what was done over a tree, none of which is in the
// table till it is committed. The zero Change is one that is over.
type Change struct {
	tree    *Tree
	began   int64                // how many commits the tree had then
	changed map[int]inode.Change // the nodes that are another one than they were
}

// Get answers a path's node.
func (c *Change) Get(p ...string) (inode.Node, api.Errno) {
	x, e := c.find(p)
	return x.shown(), e
}

// Follow answers where a path leads, and the node there.
func (c *Change) Follow(p ...string) ([]string, inode.Node, api.Errno) {
	root, e := c.place(rootNo)
	switch {
	case e != api.OK:
		return nil, inode.Node{}, e
	case !path.Right(p...):
		return nil, inode.Node{}, api.ErrPath
	}
	p = slices.Clone(p)
following:
	for links := 0; ; links++ {
		x := root
		for i, name := range p {
			if x, e = c.into(x, name); e != api.OK {
				return nil, inode.Node{}, e
			}
			if x.Stat.Kind != mode.Link {
				continue
			}
			if links == mostLinks {
				return nil, inode.Node{}, api.ErrLoop
			}
			if p, e = onward(p[:i], string(x.Data), p[i+1:]); e != api.OK {
				return nil, inode.Node{}, e
			}
			continue following
		}
		return p, x.shown(), api.OK
	}
}

// List answers a directory's names.
func (c *Change) List(p ...string) ([]string, api.Errno) {
	d, e := c.findDirectory(p)
	var l []string
	for _, x := range d.names {
		l = append(l, x.name)
	}
	return l, e
}

// Make puts a new node at a path.
func (c *Change) Make(n inode.Node, p ...string) api.Errno {
	if c.isOver() {
		return api.ErrState
	}
	ahead, name, e := path.Split(p...)
	if e != api.OK {
		return e
	}
	if e := refused(n); e != api.OK {
		return e
	}
	d, e := c.findRoom(ahead, name)
	if e != api.OK {
		return e
	}
	no, e := c.free()
	if e != api.OK {
		return e
	}
	in, e := d.with(name, no)
	if e != api.OK {
		return e
	}
	x := place{Node: n, no: no}
	if n.Stat.Kind == mode.Dir {
		x = directory{place: x}.written()
	}
	c.lay(in)
	c.lay(x)
	return api.OK
}

// Put gives a file or a link other bytes.
func (c *Change) Put(data []byte, p ...string) api.Errno {
	x, e := c.find(p)
	switch {
	case e != api.OK:
		return e
	case x.Stat.Kind == mode.Dir:
		return api.ErrType
	case len(data) > mostBytes:
		return api.ErrLong
	}
	x.Data = data
	c.lay(x)
	return api.OK
}

// Set gives a node another stat of its kind.
func (c *Change) Set(s mode.Stat, p ...string) api.Errno {
	if c.isOver() {
		return api.ErrState
	}
	if e := mode.Check(s); e != api.OK {
		return e
	}
	x, e := c.find(p)
	switch {
	case e != api.OK:
		return e
	case x.Stat.Kind != s.Kind:
		return api.ErrType
	}
	x.Stat = s
	c.lay(x)
	return api.OK
}

// Remove takes a node away, but no directory that has names.
func (c *Change) Remove(p ...string) api.Errno {
	if c.isOver() {
		return api.ErrState
	}
	ahead, name, e := path.Split(p...)
	if e != api.OK {
		return e
	}
	d, x, e := c.findEntry(ahead, name)
	if e != api.OK {
		return e
	}
	if in, e := x.directory(); e == api.OK && len(in.names) > 0 {
		return api.ErrBusy
	}
	c.lay(d.without(name).written())
	c.drop(x.no)
	return api.OK
}

// Rename moves a node, and all within it, to another path.
func (c *Change) Rename(from, to []string) api.Errno {
	if c.isOver() {
		return api.ErrState
	}
	left, old, e := path.Split(from...)
	if e != api.OK {
		return e
	}
	ahead, name, e := path.Split(to...)
	if e != api.OK || path.Within(from, to) {
		return api.ErrPath
	}
	out, x, e := c.findEntry(left, old)
	if e != api.OK {
		return e
	}
	d, e := c.findRoom(ahead, name)
	if e != api.OK {
		return e
	}
	if e := c.refusedAt(x, to); e != api.OK {
		return e
	}
	out = out.without(old)
	if d.no == out.no {
		d = out
	}
	in, e := d.with(name, x.no)
	if e != api.OK {
		return e
	}
	c.lay(out.written())
	c.lay(in) // last, since both may be one directory
	return api.OK
}

// Commit lays all in the table; the change is over then.
func (c *Change) Commit() api.Errno {
	if c.isOver() {
		return api.ErrState
	}
	var l []inode.Change
	for _, no := range slices.Sorted(maps.Keys(c.changed)) {
		l = append(l, c.changed[no])
	}
	if e := c.tree.table.Apply(l...); e != api.OK {
		return e
	}
	c.tree.commits.Add(1)
	return api.OK
}

// Count tells how many nodes are another one than they were.
func (c *Change) Count() int {
	if c.isOver() {
		return 0
	}
	return len(c.changed)
}
