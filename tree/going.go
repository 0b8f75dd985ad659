package tree

import (
	"creel/api"
	"creel/mode"
	"creel/path"
)

// place answers a node as it is in the change.
func (c *Change) place(no int) (place, api.Errno) {
	if c.isOver() {
		return place{}, api.ErrState
	}
	x, changed := c.changed[no]
	switch {
	case !changed:
		n, e := c.tree.table.Get(no)
		return place{Node: n, no: no}, e
	case x.Drop:
		return place{}, api.ErrNone
	}
	return place{Node: copied(x.Node), no: no}, api.OK
}

// into goes from a place into a name.
func (c *Change) into(x place, name string) (place, api.Errno) {
	d, e := x.directory()
	if e != api.OK {
		return place{}, e
	}
	at, is := d.find(name)
	if !is {
		return place{}, api.ErrNone
	}
	return c.place(d.names[at].no)
}

// find goes a path.
func (c *Change) find(p []string) (place, api.Errno) {
	x, e := c.place(rootNo)
	switch {
	case e != api.OK:
		return place{}, e
	case !path.Right(p...):
		return place{}, api.ErrPath
	}
	for _, name := range p {
		if x, e = c.into(x, name); e != api.OK {
			return place{}, e
		}
	}
	return x, api.OK
}

// findDirectory goes a path that leads to a directory.
func (c *Change) findDirectory(p []string) (directory, api.Errno) {
	x, e := c.find(p)
	if e != api.OK {
		return directory{}, e
	}
	return x.directory()
}

// findEntry goes a path, and answers the directory that its last name is in,
// and the place there.
func (c *Change) findEntry(ahead []string, name string) (directory, place, api.Errno) {
	d, e := c.findDirectory(ahead)
	if e != api.OK {
		return directory{}, place{}, e
	}
	x, e := c.into(d.place, name)
	return d, x, e
}

// findRoom goes a path up to its last name, and answers the directory there,
// if it doesn't have the name yet.
func (c *Change) findRoom(ahead []string, name string) (directory, api.Errno) {
	d, e := c.findDirectory(ahead)
	if e != api.OK {
		return directory{}, e
	}
	if _, is := d.find(name); is {
		return directory{}, api.ErrTwice
	}
	return d, api.OK
}

// walk calls do for all that is within a place, by paths, with the names that
// lead there from it. Where something isn't as in a tree, it is ErrForm: so it
// ends, whatever leads to what.
func (c *Change) walk(x place, do func(p []string, x place)) api.Errno {
	seen := map[int]struct{}{x.no: {}}
	var within func(x place, p []string) api.Errno
	within = func(x place, p []string) api.Errno {
		if x.Stat.Kind != mode.Dir {
			return api.OK
		}
		d, e := x.directory()
		if e != api.OK || len(d.names) > 0 && len(p) == api.MaxDepth {
			return api.ErrForm
		}
		for _, n := range d.names {
			x, e := c.place(n.no)
			if _, twice := seen[n.no]; e != api.OK || twice || !stands(x.Stat.Kind) {
				return api.ErrForm
			}
			seen[n.no] = struct{}{}
			// Each path has memory of its own: do may keep it.
			deeper := append(p[:len(p):len(p)], n.name)
			do(deeper, x)
			if e := within(x, deeper); e != api.OK {
				return e
			}
		}
		return api.OK
	}
	return within(x, nil)
}

// onward answers where a link leads from the directory it is in, and the names
// behind it.
func onward(from []string, link string, behind []string) ([]string, api.Errno) {
	to, e := path.Lead(from, link)
	if e != api.OK {
		return nil, e
	}
	return path.Join(to, behind...)
}
