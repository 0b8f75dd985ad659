package chain

import (
	"bytes"
	"fmt"
	"math/rand"
	"slices"
	"strings"
	"testing"

	"creel/api"
	"creel/inode"
	"creel/tree"
)

// picker makes what is handed in, as chance has it.
type picker struct{ *rand.Rand }

// record is mostly one of a few.
func (r picker) record() string {
	switch r.Intn(20) {
	case 0:
		return strings.Repeat("l", 399+r.Intn(3))
	case 1:
		return string([]byte{byte(r.Intn(256)), byte(r.Intn(256))})
	}
	return []string{"", "a", "b", "ab", "\x00"}[r.Intn(5)]
}

// odd does to both changes what a chain doesn't, if there is room: at a place
// near the chain's end, or among the other keys.
func (b *bench) odd(t *testing.T, r picker) {
	t.Helper()
	no := max(len(b.l)-r.Intn(4)+r.Intn(3), 0)
	ahead := slices.Clone(b.l[:min(no, len(b.l))])
	key := "db/log/" + keyOf(no)
	x := []plant{
		record(no, recordText(append(ahead, r.record())...)), record(no, recordText(append(ahead, "a")...)), record(no, "(1:a)"), record(no, turned(recordText("a"), r.Intn(300))),
		dir(key), link(key, "r000000"), file("db/log/other", "i1;"), dir("db/log/r"), {},
	}[r.Intn(9)]
	for _, c := range []*tree.Change{b.c, b.o} {
		c.Remove(at(key)...)
		if x.at != "" {
			c.Make(inode.Node{Stat: x.s, Data: []byte(x.data)}, at(x.at)...)
		}
	}
	b.tells(t, b.h)
	b.alike(t, "odd")
}

// sweep takes all keys of the table away, so that there is a chain again.
func (b *bench) sweep(t *testing.T) {
	t.Helper()
	l, e := b.o.List("db", "log")
	errs(t, "List", e, api.OK)
	for _, name := range l {
		b.remove(t, "db/log/"+name)
	}
	errs(t, "Open", b.reopen(t), api.OK)
}

// one is a chain that was opened, and what it has.
type one struct {
	h *Chain
	l []string
}

// step does what chance has with one of the chains that were opened in the
// change, and answers what, its error, and the chains.
func (b *bench) step(t *testing.T, r picker, l []one) (string, api.Errno, []one) {
	t.Helper()
	k := r.Intn(len(l))
	b.h, b.l = l[k].h, l[k].l
	switch n := r.Intn(20); {
	case n < 9:
		var records []string
		for range r.Intn(4) {
			records = append(records, r.record())
		}
		_, e := b.add(t, records...)
		l[k].l = b.l
		return "add", e, l
	case n < 12:
		b.odd(t, r)
		l[k].l = b.l
		return "odd", api.OK, l
	case n < 15:
		e := b.reopen(t)
		if e == api.OK {
			l = append(l, one{b.h, b.l})
		}
		return "open", e, l
	case n < 16:
		b.sweep(t)
	case n < 17:
		b.begin(t)
	default:
		b.commit(t)
	}
	if b.h == nil {
		b.sweep(t)
	}
	return "begin", api.OK, []one{{b.h, b.l}}
}

// P11.2, P11.3, P2: whatever is done in whatever order has the answers that the
// model tells, twice the same, and nothing but what is added is changed; each
// error that a call has is among them.
func TestChance(t *testing.T) {
	met := map[string]int{}
	run := func(seed int64) []byte {
		r := picker{rand.New(rand.NewSource(seed))}
		b := opened(t, []int{60, 8, 12, 80}[seed%4])
		b.plant(t, dir("db"), dir("db/log"))
		b.commit(t)
		l := []one{{b.h, b.l}}
		for range 150 {
			what, e := "", api.OK
			what, e, l = b.step(t, r, l)
			met[fmt.Sprint(what, " ", int(e))]++
		}
		b.commit(t)
		return b.d.Laid()
	}
	for seed := range int64(16) {
		laid := run(seed)
		if seed < 4 && !bytes.Equal(laid, run(seed)) {
			t.Fatalf("seed %d: not the same twice", seed)
		}
	}
	for what, l := range map[string][]api.Errno{
		"add":  {api.OK, api.ErrLong, api.ErrType, api.ErrFull},
		"open": {api.OK, api.ErrSum},
	} {
		for _, e := range l {
			if met[fmt.Sprint(what, " ", int(e))] == 0 {
				t.Errorf("chance has never met %s %d", what, e)
			}
		}
	}
}
