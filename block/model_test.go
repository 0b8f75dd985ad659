package block

import (
	"bytes"
	"math/rand"
	"slices"
	"testing"

	"creel/api"
)

// model is a disk that is told as the chapter's words tell it, with no heed
// to how long it takes: each sector's bytes are one number.
type model struct {
	sectors               map[int]byte
	size                  int
	waits                 [][2]int
	on                    bool
	left, writes, flushes int
}

func (m *model) spend() api.Errno {
	if m.left == 0 {
		m.on = false
		return api.ErrDown
	}
	m.left--
	return api.OK
}

func (m *model) write(no int, c byte, size int) api.Errno {
	if !m.on {
		return api.ErrDown
	}
	if no < 0 || no >= m.size || size != 64 {
		return api.ErrArg
	}
	e := m.spend()
	if e == api.OK {
		m.waits = append(m.waits, [2]int{no, int(c)})
		m.writes++
	}
	return e
}

func (m *model) flush() api.Errno {
	if !m.on {
		return api.ErrDown
	}
	e := m.spend()
	if e == api.OK {
		for _, w := range m.waits {
			m.sectors[w[0]] = byte(w[1])
		}
		m.waits = nil
		m.flushes++
	}
	return e
}

func (m *model) crash(keep []int) int {
	n := 0
	for i, w := range m.waits {
		if slices.Contains(keep, i) {
			m.sectors[w[0]] = byte(w[1])
			n++
		}
	}
	m.waits, m.on = nil, false
	return n
}

func (m *model) read(no int) byte {
	c := m.sectors[no]
	for _, w := range m.waits {
		if w[0] == no {
			c = byte(w[1])
		}
	}
	return c
}

// agree wants a disk to tell what the model does.
func agree(t *testing.T, d *Disk, m *model) {
	t.Helper()
	counts(t, d, len(m.waits), m.writes, m.flushes)
	if d.On() != m.on || d.Sectors() != m.size {
		t.Fatalf("on: %v, %d sectors; want %v, %d", d.On(), d.Sectors(), m.on, m.size)
	}
	var want []byte
	for no := range m.size {
		want = append(want, m.sectors[no])
		if m.on {
			reads(t, d, no, m.read(no))
		} else if b, e := d.Read(no); b != nil || e != api.ErrDown {
			t.Fatalf("Read(%d) without power: %v, %d", no, b, e)
		}
	}
	laid(t, d, want...)
}

// turn does one thing to both, as chance has it, and wants the same answer.
func turn(t *testing.T, r *rand.Rand, d *Disk, m *model) {
	t.Helper()
	switch k := r.Intn(20); {
	case k < 11:
		no, c, size := r.Intn(m.size+2)-1, byte(r.Intn(256)), 64
		if r.Intn(10) == 0 {
			size = 60 + r.Intn(8)
		}
		errs(t, "Write", d.Write(no, bytes.Repeat([]byte{c}, size)), m.write(no, c, size))
	case k < 14:
		errs(t, "Flush", d.Flush(), m.flush())
	case k < 16:
		var keep []int
		for range r.Intn(6) {
			keep = append(keep, r.Intn(len(m.waits)+4)-2)
		}
		before := *m
		before.sectors = map[int]byte{}
		for no, c := range m.sectors {
			before.sectors[no] = c
		}
		if got, want := d.Crash(keep...), m.crash(keep); got != want {
			t.Fatalf("Crash(%v): %d; want %d", keep, got, want)
		}
		oldOrWaiting(t, d, &before)
	case k < 18:
		d.Power()
		m.waits, m.on, m.left = nil, true, -1
	default:
		n := r.Intn(12) - 3
		d.Arm(n)
		m.left = n
	}
}

// oldOrWaiting wants each sector to be as it was laid, or as one of the
// writes that waited has it (P1.4).
func oldOrWaiting(t *testing.T, d *Disk, before *model) {
	t.Helper()
	all := d.Laid()
	for no := range before.size {
		got := all[no*64 : no*64+64]
		ok := bytes.Equal(got, full(before.sectors[no]))
		for _, w := range before.waits {
			ok = ok || w[0] == no && bytes.Equal(got, full(byte(w[1])))
		}
		if !ok {
			t.Fatalf("sector %d is %v behind a crash", no, got)
		}
	}
}

// P1.1 to P1.4, P2: whatever is asked for in whatever order, a disk and its
// copies tell what the chapter's words do.
func TestModel(t *testing.T) {
	for seed := range int64(60) {
		r := rand.New(rand.NewSource(seed))
		size := 1 + r.Intn(5)
		d := fresh(t, size)
		m := &model{sectors: map[int]byte{}, size: size, on: true, left: -1}
		for range 150 {
			turn(t, r, d, m)
			if r.Intn(8) == 0 {
				d = d.Copy()
			}
			agree(t, d, m)
			if t.Failed() {
				t.Fatalf("seed %d", seed)
			}
		}
	}
}

// P1: many waiting writes and many places told end soon, too.
func TestMany(t *testing.T) {
	d := fresh(t, api.MaxSectors)
	var keep []int
	for i := range 50000 {
		write(t, d, byte(i/api.MaxSectors), i%api.MaxSectors)
		keep = append(keep, 49999-i, i, -i)
	}
	reads(t, d, 7, 12)
	if n := d.Crash(keep...); n != 50000 {
		t.Errorf("Crash: %d", n)
	}
	d.Power()
	reads(t, d, 7, 12)
	counts(t, d, 0, 50000, 0)
}
