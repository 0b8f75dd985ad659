package table

import (
	"bytes"
	"fmt"
	"math/rand"
	"strings"
	"testing"

	"creel/api"
	"creel/codec"
	"creel/mode"
)

// picker makes what is handed in, as chance has it.
type picker struct {
	*rand.Rand
	tables, keys []string
}

// many are so many names that no directory has room for all.
func many() []string {
	var l []string
	for i := range 25 {
		l = append(l, long(i))
	}
	return l
}

// name is mostly one of these.
func (r picker) name(l []string) string {
	if bad := noNames(); r.Intn(15) == 0 {
		return bad[r.Intn(len(bad))]
	}
	return l[r.Intn(len(l))]
}

// value is mostly a right one.
func (r picker) value() codec.Value {
	l := values()
	switch r.Intn(8) {
	case 0:
		bad := wrong()
		e := []api.Errno{api.ErrType, api.ErrLoop, api.ErrLong}[r.Intn(3)]
		return bad[e][r.Intn(len(bad[e]))]
	case 1:
		return sized(510 + r.Intn(5))
	}
	return l[r.Intn(len(l))]
}

// odd does to the change what a table doesn't, at a path that matters, if the
// tree can; nothing is said of how.
func (b *bench) odd(t *testing.T, r picker) {
	t.Helper()
	p := "db"
	for _, more := range []string{r.tables[r.Intn(len(r.tables))], r.keys[r.Intn(len(r.keys))]} {
		if r.Intn(5) > 0 {
			p += "/" + more
		}
	}
	if len(b.m.names("/"+p)) > 0 || !b.m.is("/"+p[:max(strings.LastIndex(p, "/"), 0)], mode.Dir) && p != "db" {
		return
	}
	things := []plant{file(p, "i1;"), file(p, nothing()[r.Intn(len(nothing()))]), dir(p), dir(p), link(p, "/db")}
	x := things[r.Intn(len(things))]
	if _, there := b.m.at["/"+p]; there && r.Intn(2) == 0 {
		errs(t, "Remove", b.c.Remove(at(p)...), api.OK)
		b.did(t, "Remove", b.m.without("/"+p))
		return
	}
	if _, room := b.m.without("/"+p).with("/"+p, x.s, x.data); room {
		b.plant(t, x)
	}
}

// step does what chance has, and answers what, and its error.
func (b *bench) step(t *testing.T, r picker) (string, api.Errno) {
	t.Helper()
	table := r.tables[r.Intn(len(r.tables))]
	switch k := r.Intn(20); {
	case k < 9:
		return "put", b.put(t, table, r.name(r.keys), r.value())
	case k < 12:
		var keys []string
		for range r.Intn(5) {
			keys = append(keys, r.name(r.keys))
		}
		_, e := b.drop(t, table, keys...)
		return "drop", e
	case k < 14:
		key := r.name(r.keys)
		b.asked(t, table, key)
		_, e := b.m.get(table, key)
		return "get", e
	case k < 15:
		_, e := b.m.of("/db/"+table, mode.File)
		b.asked(t, table)
		return "keys", e
	case k < 16:
		_, e := b.m.of("/db", mode.Dir)
		b.asked(t, table)
		return "tables", e
	case k < 18:
		b.odd(t, r)
		return "odd", api.OK
	case k < 19 && r.Intn(4) == 0:
		b.begin()
		return "begin", api.OK
	}
	b.commit(t)
	return "commit", api.OK
}

// P9.1 to P9.4, P2: whatever is done in whatever order has the answers that the
// model tells, twice the same, and beside an error nothing is changed; each
// error that a call has is among them.
func TestChance(t *testing.T) {
	met := map[string]int{}
	run := func(seed int64) []byte {
		r := picker{rand.New(rand.NewSource(seed)), []string{"x", "y"}, []string{"a", "b", "c", "d"}}
		switch seed % 5 {
		case 3:
			r.tables = many()
		case 4:
			r.keys = many()
		}
		b := planted(t, []int{7, 12, 20, 80, 80}[seed%5])
		for range 200 {
			what, e := b.step(t, r)
			met[fmt.Sprint(what, " ", int(e))]++
		}
		b.commit(t)
		return b.d.Laid()
	}
	for seed := range int64(24) {
		laid := run(seed)
		if seed < 5 && !bytes.Equal(laid, run(seed)) {
			t.Fatalf("seed %d: not the same twice", seed)
		}
	}
	for what, l := range map[string][]api.Errno{
		"put":    {api.OK, api.ErrPath, api.ErrType, api.ErrLoop, api.ErrLong, api.ErrFull},
		"get":    {api.OK, api.ErrPath, api.ErrNone, api.ErrForm},
		"drop":   {api.OK, api.ErrPath},
		"keys":   {api.OK, api.ErrType},
		"tables": {api.OK, api.ErrType},
	} {
		for _, e := range l {
			if met[fmt.Sprint(what, " ", int(e))] == 0 {
				t.Errorf("chance has never met %s %d", what, e)
			}
		}
	}
}
