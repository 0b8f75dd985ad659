package sector

import (
	"bytes"
	"encoding/binary"
	"math"
	"math/rand"
	"testing"

	"creel/api"
)

// A sector has its parts, one behind the other, and bytes 0.
func TestOf(t *testing.T) {
	long := bytes.Repeat([]byte{7}, 2*api.SectorSize)
	for _, c := range []struct {
		parts [][]byte
		want  []byte
	}{
		{nil, nil},
		{[][]byte{nil, {}}, nil},
		{[][]byte{{1, 2}, nil, {3}}, []byte{1, 2, 3}},
		{[][]byte{long[:64]}, long[:64]},
		{[][]byte{{1}, long[:63]}, append([]byte{1}, long[:63]...)},
		{[][]byte{long}, long[:64]},
	} {
		want := append(bytes.Clone(c.want), make([]byte, 64-len(c.want))...)
		if got := Of(c.parts...); !bytes.Equal(got, want) {
			t.Errorf("Of(%v): %v", c.parts, got)
		}
	}
}

// A sector is memory of its own, also where one part is all of it.
func TestOfIsNew(t *testing.T) {
	part := bytes.Repeat([]byte{7}, api.SectorSize)
	b := Of(part)
	b[0] = 9
	if part[0] != 7 || Of(part)[0] != 7 {
		t.Error("a sector shares its bytes with a part")
	}
}

// Numbers are written with their highest byte first, and read so.
func TestNumbers(t *testing.T) {
	if got := Bytes(0x01020304, 4); !bytes.Equal(got, []byte{1, 2, 3, 4}) {
		t.Errorf("four bytes: %v", got)
	}
	if got := Bytes(0x01020304, 2); !bytes.Equal(got, []byte{3, 4}) {
		t.Errorf("the lowest two: %v", got)
	}
	for _, size := range []int{0, -1, math.MinInt} {
		if got := Bytes(5, size); len(got) != 0 {
			t.Errorf("%d bytes: %v", size, got)
		}
	}
	if got := Number(nil); got != 0 {
		t.Errorf("no bytes: %d", got)
	}
	r := rand.New(rand.NewSource(1))
	for range 1000 {
		n := r.Uint64() >> r.Intn(64)
		if want := binary.BigEndian.AppendUint64(nil, n); !bytes.Equal(Bytes(int(n), 8), want) || Number(want) != n {
			t.Errorf("%d: %v, %d", n, Bytes(int(n), 8), Number(want))
		}
	}
}
