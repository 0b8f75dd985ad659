package archive

import (
	"creel/api"
	"creel/digest"
	"creel/path"
	"creel/sector"
)

// begin is what an archive begins with.
const begin = "CREL"

// How many bytes each part has whose length isn't told.
const (
	countSize  = 1
	kindSize   = 1
	modeSize   = 2
	lengthSize = 1 // of a path's text
	dataSize   = 2 // of how many bytes there are
	sumSize    = 8
)

// write answers the bytes of entries that aren't refused.
func write(l []Entry) []byte {
	b := append([]byte(begin), sector.Bytes(len(l), countSize)...)
	for _, x := range l {
		text := path.Text(x.Path...)
		b = append(b, sector.Bytes(x.Kind, kindSize)...)
		b = append(b, sector.Bytes(x.Mode, modeSize)...)
		b = append(b, sector.Bytes(len(text), lengthSize)...)
		b = append(b, text...)
		b = append(b, sector.Bytes(len(x.Data), dataSize)...)
		b = append(b, x.Data...)
		b = append(b, sumOf(x)...)
	}
	return b
}

// sumOf is the beginning of the digest that binds an entry's path and bytes.
func sumOf(x Entry) []byte {
	d := digest.Framed([]byte(path.Text(x.Path...)), x.Data)
	return d[:sumSize]
}

// place is where reading stands: ahead of what is left.
type place struct {
	left    []byte
	missing bool // more was asked for than was left: what was taken isn't right
}

// take answers the next n bytes, and goes behind them.
func (p *place) take(n int) []byte {
	if n > len(p.left) {
		p.missing = true
		return nil
	}
	taken := p.left[:n]
	p.left = p.left[n:]
	return taken
}

// number answers the number that the next bytes are.
func (p *place) number(size int) int { return int(sector.Number(p.take(size))) }

// reader reads entries from its place on.
type reader struct {
	place
	l []Entry // those that were read
}

// archive reads how many entries there are, and they, up to the end.
func (r *reader) archive() api.Errno {
	count := r.number(countSize)
	switch {
	case r.missing:
		return api.ErrEnd
	case count > mostEntries:
		return api.ErrLong
	}
	for range count {
		if e := r.entry(); e != api.OK {
			return e
		}
	}
	if len(r.left) > 0 {
		return api.ErrForm
	}
	return api.OK
}

// entry reads the next one, if it isn't refused.
func (r *reader) entry() api.Errno {
	c := r.candidate()
	if r.missing {
		return api.ErrEnd
	}
	e := c.refusal()
	if e == api.OK {
		r.l = append(r.l, own(c.Entry))
	}
	return e
}

// candidate reads the parts of the next entry, be they right or not. What isn't
// a path's text is taken for no names, since that is refused alike.
func (r *reader) candidate() candidate {
	c := candidate{ahead: r.l}
	c.Kind = r.number(kindSize)
	c.Mode = r.number(modeSize)
	c.Path, _ = path.Parse(string(r.take(r.number(lengthSize))))
	c.Data = r.take(r.number(dataSize))
	c.sum = r.take(sumSize)
	return c
}
