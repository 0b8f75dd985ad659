package table

import (
	"slices"
	"testing"

	"creel/api"
	"creel/codec"
)

// roomy is a value of all kinds, whose bytes and lists have room behind them.
func roomy() codec.Value {
	text := func(s string) codec.Value {
		return codec.Value{Kind: codec.Bytes, B: append(make([]byte, 0, 20), s...)}
	}
	within := append(make([]codec.Value, 0, 5), text("in"), codec.Int(2))
	return codec.Value{Kind: codec.List, L: append(make([]codec.Value, 0, 5), text("a"), codec.Int(1), codec.Value{Kind: codec.List, L: within})}
}

// scrub writes over all that a value has, in all its room.
func scrub(v *codec.Value) {
	for i := range v.L[:cap(v.L)] {
		scrub(&v.L[:cap(v.L)][i])
	}
	for i := range v.B[:cap(v.B)] {
		v.B[:cap(v.B)][i] = '#'
	}
	v.N = 99
}

// scratch writes over a list of names, in all its room.
func scratch(l []string) {
	l = l[:cap(l)]
	for i := range l {
		l[i] = "scratch"
	}
}

// untouched wants a list to be as it was, with nothing in the room behind it.
func untouched(t *testing.T, l []string, want ...string) {
	t.Helper()
	behind := l[len(l):cap(l)]
	if !slices.Equal(l, want) || slices.ContainsFunc(behind, func(s string) bool { return s != "" }) {
		t.Errorf("what was handed in is changed: %q", l[:cap(l)])
	}
}

// P9.4: a value that is handed in is neither kept nor changed.
func TestValueHandedIn(t *testing.T) {
	b := planted(t, 20)
	for range 2 { // a new key, and one that is there
		v := roomy()
		b.put(t, "x", "a", v)
		if !codec.Same(v, roomy()) || v.L[:4][3].Kind != 0 || string(v.L[0].B[:3]) != "a\x00\x00" {
			t.Errorf("Put changes what was handed in: %v", v)
		}
		scrub(&v)
		b.asked(t, "x")
	}
	b.commit(t)
	if v, e := b.of(t, "x").Get("a"); e != api.OK || !codec.Same(v, roomy()) {
		t.Errorf("Get: %v, %d", v, e)
	}
}

// P9.4: keys that are handed in are neither kept nor changed.
func TestKeysHandedIn(t *testing.T) {
	b := planted(t, 20)
	for _, key := range []string{"a", "b", "c"} {
		b.put(t, "x", key, codec.Int(1))
	}
	for _, keys := range [][]string{{"c", "a", "none"}, {"b", "A"}, {"b"}} {
		l := append(make([]string, 0, 10), keys...)
		b.drop(t, "x", l...)
		untouched(t, l, keys...)
		scratch(l)
		b.asked(t, "x", "a", "b", "c")
	}
	b.commit(t)
}

// P9.4: what is answered is new memory.
func TestAnswered(t *testing.T) {
	b := planted(t, 20)
	for _, key := range []string{"a", "b"} {
		b.put(t, "x", key, roomy())
	}
	b.put(t, "y", "a", codec.Int(1))
	for range 2 { // not committed, and committed
		x := b.of(t, "x")
		v, e := x.Get("a")
		errs(t, "Get", e, api.OK)
		scrub(&v)
		b.asked(t, "x")
		l, e := x.Keys()
		errs(t, "Keys", e, api.OK)
		again, _ := x.Keys()
		scratch(l)
		untouched(t, again[:2:2], "a", "b")
		b.asked(t, "x")
		l, e = Tables(b.c)
		errs(t, "Tables", e, api.OK)
		again, _ = Tables(b.c)
		scratch(l)
		untouched(t, again[:2:2], "x", "y")
		b.asked(t, "x")
		var told []codec.Value
		errs(t, "Each", x.Each(func(_ string, v codec.Value) bool {
			for i := range told {
				scrub(&told[i])
			}
			if !codec.Same(v, roomy()) {
				t.Errorf("what was told is shared: %v", v)
			}
			told = append(told, v)
			return true
		}), api.OK)
		scrub(&told[1])
		b.asked(t, "x")
		b.commit(t)
	}
}
