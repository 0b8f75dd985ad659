package table

import (
	"slices"

	"creel/api"
	"creel/inode"
	"creel/mode"
	"creel/path"
	"creel/tree"
)

// baseName is the directory that has all tables.
const baseName = "db"

// The modes of what is made.
const (
	directoryMode = 0o700
	fileMode      = 0o600
)

// place is where something stands in a change, or would.
type place struct {
	*tree.Change
	path []string
}

// base answers where all tables of a change stand.
func base(c *tree.Change) place { return place{Change: c, path: []string{baseName}} }

// within answers the place of that name within a place; ErrPath, if it is no
// name.
func (x place) within(name string) (place, api.Errno) {
	p, e := path.Join(x.path, name)
	if e != api.OK {
		return place{}, e
	}
	return place{Change: x.Change, path: p}, api.OK
}

// node answers what stands there. In what is no directory nothing does.
func (x place) node() (inode.Node, api.Errno) {
	n, e := x.Get(x.path...)
	if e == api.ErrType {
		e = api.ErrNone
	}
	return n, e
}

// names answers the names of all of a kind that stands within a place, rising;
// none, if the place itself isn't there. What stands there is asked first, since
// List's error is the same where it is no directory and where something on the
// way to it is none.
func (x place) names(kind int) ([]string, api.Errno) {
	if _, e := x.node(); e == api.ErrNone {
		return nil, api.OK
	}
	l, e := x.List(x.path...)
	if e != api.OK {
		return nil, e
	}
	return slices.DeleteFunc(l, func(name string) bool { return !x.has(name, kind) }), api.OK
}

// has tells whether something of that name and kind stands within a place.
func (x place) has(name string, kind int) bool {
	in, e := x.within(name)
	if e != api.OK {
		return false
	}
	n, e := in.node()
	return e == api.OK && n.Stat.Kind == kind
}

// lay makes a file, and ahead of it the directories that it needs: all of them,
// or nothing.
func (x place) lay(data []byte) api.Errno {
	made, e := x.open()
	if e == api.OK {
		e = x.Make(inode.Node{Stat: mode.Stat{Kind: mode.File, Mode: fileMode}, Data: data}, x.path...)
	}
	if e != api.OK {
		for _, p := range slices.Backward(made) {
			x.Remove(p...) // it has no names: what was made in it is gone
		}
	}
	return e
}

// open makes the directories that lead to a place, where they aren't there, and
// answers those that it made, also beside an error.
func (x place) open() ([][]string, api.Errno) {
	var made [][]string
	for n := 1; n < len(x.path); n++ {
		p := x.path[:n]
		switch e := x.Make(inode.Node{Stat: mode.Stat{Kind: mode.Dir, Mode: directoryMode}}, p...); e {
		case api.OK:
			made = append(made, p)
		case api.ErrTwice:
		default:
			return made, e
		}
	}
	return made, api.OK
}

// clear takes away the file that stands there; ErrNone, if none does.
func (x place) clear() api.Errno {
	n, e := x.node()
	switch {
	case e != api.OK:
		return e
	case n.Stat.Kind != mode.File:
		return api.ErrNone
	}
	return x.Remove(x.path...)
}
