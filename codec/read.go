package codec

import (
	"bytes"
	"strconv"
	"strings"

	"creel/api"
)

// Decode answers the value that the bytes are, all of them.
func Decode(b []byte) (Value, api.Errno) {
	v, left, e := first(b)
	switch {
	case e != api.OK:
		return Value{}, e
	case len(left) > 0:
		return Value{}, api.ErrForm
	}
	return v, api.OK
}

// Next answers the value at the beginning of the bytes, and the rest.
func Next(b []byte) (Value, []byte, api.Errno) {
	v, left, e := first(b)
	if e != api.OK {
		return Value{}, nil, e
	}
	return v, bytes.Clone(left), api.OK
}

// first is Next, but what is left is shared with the bytes.
func first(b []byte) (Value, []byte, api.Errno) {
	if len(b) > api.MaxBytes {
		return Value{}, nil, api.ErrLong
	}
	r := reader{place: place{left: b}}
	v, e := r.value()
	return v, r.left, e
}

// place is where reading stands: ahead of what is left.
type place struct{ left []byte }

// ended tells whether nothing is left.
func (p *place) ended() bool { return len(p.left) == 0 }

// pass answers the next n bytes, which must be there, and goes behind them.
func (p *place) pass(n int) []byte {
	passed := p.left[:n]
	p.left = p.left[n:]
	return passed
}

// take goes behind the next byte, if it is that sign.
func (p *place) take(sign byte) bool {
	if p.ended() || p.left[0] != sign {
		return false
	}
	p.pass(1)
	return true
}

// numeral answers the next digits, as far as they go, with a minus that may
// be ahead of them, and goes behind them.
func (p *place) numeral() string {
	n := 0
counting:
	for i, sign := range p.left {
		switch {
		case isDigit(sign), i == 0 && sign == minus:
			n++
		default:
			break counting
		}
	}
	return string(p.pass(n))
}

// reader reads values from its place on.
type reader struct {
	place
	open int // how many lists it is in
}

// value reads a value of any kind.
func (r *reader) value() (Value, api.Errno) {
	switch {
	case r.ended():
		return Value{}, api.ErrEnd
	case r.take(numberBegin):
		return r.number()
	case r.take(listBegin):
		return r.list()
	case isDigit(r.left[0]):
		return r.bytes()
	}
	return Value{}, api.ErrForm
}

// number reads the rest of a number.
func (r *reader) number() (Value, api.Errno) {
	n, e := r.integer(numberEnd)
	if e != api.OK {
		return Value{}, e
	}
	return Int(n), api.OK
}

// bytes reads how many there are, and they. There is a digit ahead, so that
// they aren't fewer than none.
func (r *reader) bytes() (Value, api.Errno) {
	n, e := r.integer(bytesBegin)
	switch {
	case e != api.OK:
		return Value{}, e
	case n > len(r.left):
		return Value{}, api.ErrEnd
	}
	return own(Value{Kind: Bytes, B: r.pass(n)}), api.OK
}

// list reads the rest of a list.
func (r *reader) list() (Value, api.Errno) {
	if r.open == Deepest {
		return Value{}, api.ErrLoop
	}
	r.open++
	var l []Value
	for !r.take(listEnd) {
		v, e := r.value()
		if e != api.OK {
			return Value{}, e
		}
		l = append(l, v)
	}
	r.open--
	return Value{Kind: List, L: l}, api.OK
}

// integer reads a number and the sign behind it.
func (r *reader) integer(end byte) (int, api.Errno) {
	text := r.numeral()
	switch {
	case r.ended():
		return 0, api.ErrEnd
	case !r.take(end) || !plain(text):
		return 0, api.ErrForm
	}
	n, err := strconv.Atoi(text)
	if err != nil {
		// Of such a text it can be wrong only that it doesn't fit.
		return 0, api.ErrLong
	}
	return n, api.OK
}

// plain tells whether a numeral is written the one way: it has digits, and no
// 0 too many.
func plain(text string) bool {
	digits := strings.TrimPrefix(text, "-")
	switch {
	case digits == "":
		return false
	case digits[0] == '0':
		return text == "0"
	}
	return true
}

// isDigit tells whether a sign is 0 to 9.
func isDigit(sign byte) bool { return sign >= '0' && sign <= '9' }
