package codec

import (
	"strconv"

	"creel/api"
)

// The signs that values are written with, beside digits.
const (
	numberBegin = 'i'
	numberEnd   = ';'
	minus       = '-'
	bytesBegin  = ':' // behind how many there are
	listBegin   = '('
	listEnd     = ')'
)

// Encode answers a value's bytes.
func Encode(v Value) ([]byte, api.Errno) {
	if e := Check(v); e != api.OK {
		return nil, e
	}
	return write(make([]byte, 0, size(v)), v), api.OK
}

// write adds a right value's bytes to b.
func write(b []byte, v Value) []byte {
	switch v.Kind {
	case Number:
		b = strconv.AppendInt(append(b, numberBegin), int64(v.N), 10)
		return append(b, numberEnd)
	case Bytes:
		b = strconv.AppendInt(b, int64(len(v.B)), 10)
		return append(append(b, bytesBegin), v.B...)
	}
	b = append(b, listBegin)
	for _, x := range v.L {
		b = write(b, x)
	}
	return append(b, listEnd)
}

// size is how many bytes a right value has. Where they are too many already,
// the rest isn't counted.
func size(v Value) int {
	const signs = 2 // those of a number, or of a list
	switch v.Kind {
	case Number:
		return signs + len(strconv.Itoa(v.N))
	case Bytes:
		return len(strconv.Itoa(len(v.B))) + 1 + len(v.B)
	}
	all := signs
	for _, x := range v.L {
		all += size(x)
		if all > api.MaxBytes {
			break
		}
	}
	return all
}
