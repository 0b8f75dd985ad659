// Package sector makes a disk's sectors of parts, and numbers of their bytes,
// for all layers that lay something on a disk, or write numbers as it is done
// there.
package sector

import (
	"bytes"

	"creel/api"
)

// Of answers a sector that has these parts, and bytes 0 behind them.
func Of(parts ...[]byte) []byte {
	b := make([]byte, api.SectorSize)
	copy(b, bytes.Join(parts, nil))
	return b
}

// Bytes answers a number as so many bytes, the highest one first.
func Bytes(n, size int) []byte {
	b := make([]byte, max(size, 0))
	for i := range b {
		b[size-1-i] = byte(n >> (8 * i))
	}
	return b
}

// Number answers the number that bytes are, the highest one first.
func Number(b []byte) uint64 {
	n := uint64(0)
	for _, x := range b {
		n = n<<8 | uint64(x)
	}
	return n
}
