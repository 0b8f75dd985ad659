package store

import (
	"bytes"
	"fmt"
	"math/rand"
	"testing"

	"creel/api"
)

// picker makes what is handed in, as chance has it.
type picker struct{ *rand.Rand }

// name is mostly one of a few.
func (r picker) name() string {
	if bad := noNames(); r.Intn(25) == 0 {
		return bad[r.Intn(len(bad))]
	}
	return []string{"a", "b", "c", "ab"}[r.Intn(4)]
}

// pack is mostly right.
func (r picker) pack() Package {
	p := Package{Name: r.name(), Publisher: r.name()}
	no := 0
	for range 1 + r.Intn(3) + r.Intn(11)/10 - r.Intn(11)/10 {
		no += 1 + r.Intn(3) - r.Intn(16)/15*3
		p.Revs = append(p.Revs, Rev{no, seal(byte(r.Intn(256))), r.Intn(131073) - r.Intn(21)/20*131072})
		if r.Intn(2) == 0 || p.Active == 0 {
			p.Active = no
		}
	}
	if r.Intn(15) == 0 {
		p.Active = r.Intn(5)
	}
	return p
}

// conn is mostly right.
func (r picker) conn() Conn {
	return Conn{[2]string{r.name(), []string{"p", "q"}[r.Intn(2)]}, [2]string{r.name(), "s"}, r.name()}
}

// odd lays into both changes what a store doesn't, if there is room.
func (b *bench) odd(t *testing.T, r picker) {
	t.Helper()
	if _, e := b.c.Get(at(packagesAt)...); e != api.OK {
		return
	}
	if _, e := b.c.Get(at(connsAt)...); e != api.OK {
		return
	}
	packages, conns, c := wrongPackages(), wrongConns(), r.conn()
	b.lay([]plant{
		file(packagesAt+"/c", packages[r.Intn(len(packages))]), file(packagesAt+"/b", packageText(pack("b", 1, 7))), dir(packagesAt + "/ab"), link(packagesAt+"/a", "b"),
		file(connsAt+"/"+keyOf(c), conns[r.Intn(len(conns))]), file(connsAt+"/"+keyOf(c), connText(c)), dir(connsAt + "/" + keyOf(c)), file(connsAt+"/a", connText(c)),
	}[r.Intn(8)])
	b.asked(t, "a", "b")
}

// step does what chance has, and answers what, and its error.
func (b *bench) step(t *testing.T, r picker) (string, api.Errno) {
	t.Helper()
	switch k := r.Intn(20); {
	case k < 6:
		return "save", b.save(t, r.pack())
	case k < 8:
		var l []string
		for range r.Intn(4) {
			l = append(l, r.name())
		}
		_, e := b.drop(t, l...)
		return "drop", e
	case k < 13:
		return "connect", b.connect(t, r.conn())
	case k < 16:
		return "disconnect", b.disconnect(t, r.conn())
	case k < 17:
		b.odd(t, r)
		return "odd", api.OK
	case k < 18:
		b.ends(t, r.name(), r.name())
		return "conns", api.OK
	case k < 19 && r.Intn(4) == 0:
		b.begin(t)
		return "begin", api.OK
	}
	b.commit(t)
	return "commit", api.OK
}

// P10.1 to P10.4, P2: whatever is done in whatever order has the answers that the
// model tells, twice the same, and beside an error nothing is changed; each
// error that a call has is among them.
func TestChance(t *testing.T) {
	met := map[string]int{}
	run := func(seed int64) []byte {
		r := picker{rand.New(rand.NewSource(seed))}
		b := opened(t, []int{60, 8, 12, 60}[seed%4])
		for range 150 {
			what, e := b.step(t, r)
			met[fmt.Sprint(what, " ", int(e))]++
		}
		b.commit(t)
		return b.d.Laid()
	}
	for seed := range int64(12) {
		laid := run(seed)
		if seed < 4 && !bytes.Equal(laid, run(seed)) {
			t.Fatalf("seed %d: not the same twice", seed)
		}
	}
	for what, l := range map[string][]api.Errno{
		"save":       {api.OK, api.ErrPath, api.ErrLong, api.ErrArg, api.ErrNone, api.ErrType, api.ErrFull},
		"drop":       {api.OK, api.ErrPath},
		"connect":    {api.OK, api.ErrPath, api.ErrTwice, api.ErrType, api.ErrFull},
		"disconnect": {api.OK, api.ErrPath, api.ErrNone},
	} {
		for _, e := range l {
			if met[fmt.Sprint(what, " ", int(e))] == 0 {
				t.Errorf("chance has never met %s %d", what, e)
			}
		}
	}
}
