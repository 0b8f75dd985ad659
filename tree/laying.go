package tree

import (
	"bytes"
	"slices"

	"creel/api"
	"creel/inode"
	"creel/mode"
)

// isOver tells whether a change can't be committed any more: it was, or another
// one was since it began. The table isn't what it began over then.
func (c *Change) isOver() bool {
	return c == nil || c.tree == nil || c.began != c.tree.commits.Load()
}

// lay notes what a node is from now on; one that is what it was is no other
// one.
func (c *Change) lay(x place) {
	was, e := c.tree.table.Get(x.no)
	if e == api.OK && inode.Same(was, x.Node) {
		delete(c.changed, x.no)
		return
	}
	c.changed[x.no] = inode.Change{No: x.no, Node: copied(x.Node)}
}

// drop notes that a node is free from now on; one that was free is no other
// one.
func (c *Change) drop(no int) {
	if _, e := c.tree.table.Get(no); e != api.OK {
		delete(c.changed, no)
		return
	}
	c.changed[no] = inode.Change{No: no, Drop: true}
}

// free answers the lowest node that is free in the change; those that it drops
// are, though the table has them still.
func (c *Change) free() (int, api.Errno) {
	var taken, free []int
	for no, x := range c.changed {
		if x.Drop {
			free = append(free, no)
		} else {
			taken = append(taken, no)
		}
	}
	no, e := c.tree.table.Free(taken...)
	switch {
	case e == api.OK:
		free = append(free, no)
	case len(free) == 0:
		return 0, e
	}
	return slices.Min(free), api.OK
}

// refused tells what keeps a node from being made, wherever it is to stand.
func refused(n inode.Node) api.Errno {
	if !stands(n.Stat.Kind) || n.Stat.Kind == mode.Dir && len(n.Data) > 0 {
		return api.ErrType
	}
	if e := mode.Check(n.Stat); e != api.OK {
		return e
	}
	if len(n.Data) > mostBytes {
		return api.ErrLong
	}
	return api.OK
}

// refusedAt tells what keeps a place, and all within it, from standing at a
// path.
func (c *Change) refusedAt(x place, to []string) api.Errno {
	deepest := len(to)
	e := c.walk(x, func(p []string, _ place) { deepest = max(deepest, len(to)+len(p)) })
	switch {
	case e != api.OK:
		return e
	case deepest > api.MaxDepth:
		return api.ErrPath
	}
	return api.OK
}

// stands tells whether what is of that kind may be in a tree.
func stands(kind int) bool { return kind == mode.File || kind == mode.Dir || kind == mode.Link }

// copied answers a node in memory of its own.
func copied(n inode.Node) inode.Node {
	n.Data = bytes.Clone(n.Data)
	return n
}
