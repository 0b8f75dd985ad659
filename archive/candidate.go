package archive

import (
	"bytes"

	"creel/api"
	"creel/mode"
	"creel/path"
)

// candidate is an entry that may be refused.
type candidate struct {
	Entry
	ahead []Entry // those that were there, none of which was refused
	sum   []byte  // what is told for its digest; nil, if nothing is
}

// check is one thing for which an entry is refused.
type check struct {
	fails func(c candidate) bool
	e     api.Errno
}

// checks are all of them, in order. Each may take for granted that those ahead
// of it don't fail.
func checks() []check {
	return []check{
		{candidate.pathless, api.ErrPath},
		{candidate.kindless, api.ErrType},
		{candidate.risky, api.ErrMode},
		{candidate.filled, api.ErrForm},
		{candidate.long, api.ErrLong},
		{candidate.leadsOut, api.ErrPath},
		{candidate.twice, api.ErrTwice},
		{candidate.nowhere, api.ErrNone},
		{candidate.bent, api.ErrSum},
	}
}

// refusal tells why a candidate is refused.
func (c candidate) refusal() api.Errno {
	for _, one := range checks() {
		if one.fails(c) {
			return one.e
		}
	}
	return api.OK
}

// pathless: its path is none that has a name and can be told by its text. Of
// names that aren't right that text may be another path's, as that of "a/b" is.
func (c candidate) pathless() bool {
	p, e := path.Parse(path.Text(c.Path...))
	return e != api.OK || len(p) == 0 || !path.Same(p, c.Path)
}

// kindless: its kind is none that an archive has.
func (c candidate) kindless() bool {
	return c.Kind != mode.File && c.Kind != mode.Dir && c.Kind != mode.Link
}

// risky: its mode is none, or isn't safe.
func (c candidate) risky() bool {
	return !mode.Safe(mode.Stat{Kind: c.Kind, Mode: c.Mode})
}

// filled: it is a directory with bytes.
func (c candidate) filled() bool { return c.Kind == mode.Dir && len(c.Data) > 0 }

// long: it has too many bytes.
func (c candidate) long() bool { return len(c.Data) > mostBytes }

// leadsOut: it is a link that leads nowhere. One that begins with a "/" leads
// from the root of all, which isn't where the archive will be.
func (c candidate) leadsOut() bool {
	if c.Kind != mode.Link {
		return false
	}
	_, e := path.Lead(c.home(), string(c.Data))
	return e != api.OK || bytes.HasPrefix(c.Data, []byte("/"))
}

// twice: its path was there.
func (c candidate) twice() bool { return at(c.ahead, c.Path) >= 0 }

// nowhere: the directory that it is in wasn't there.
func (c candidate) nowhere() bool {
	home := c.home()
	if len(home) == 0 {
		return false
	}
	no := at(c.ahead, home)
	return no < 0 || c.ahead[no].Kind != mode.Dir
}

// bent: its digest is another one than what is told.
func (c candidate) bent() bool {
	return c.sum != nil && !bytes.Equal(c.sum, sumOf(c.Entry))
}

// home is the path of the directory that it is in.
func (c candidate) home() []string {
	home, _, _ := path.Split(c.Path...)
	return home
}
