package chain

import (
	"slices"
	"testing"

	"creel/api"
)

// roomy are records as bytes with room behind them, in a list with room.
func roomy(l ...string) [][]byte {
	all := make([][]byte, 0, len(l)+5)
	for _, s := range l {
		all = append(all, append(make([]byte, 0, len(s)+20), s...))
	}
	return all
}

// scrub writes over all bytes of a list, in all their room and its.
func scrub(l [][]byte) {
	for i, b := range l {
		b = b[:cap(b)]
		for j := range b {
			b[j] = '#'
		}
		l[i] = nil
	}
	for i := range l[:cap(l)] {
		l[:cap(l)][i] = []byte("scrub")
	}
}

// untouched wants records to be as they were, with nothing in the room behind
// them.
func untouched(t *testing.T, what string, l [][]byte, want ...string) {
	t.Helper()
	same(t, l, want)
	for _, b := range l {
		if slices.ContainsFunc(b[len(b):cap(b)], func(x byte) bool { return x != 0 }) {
			t.Errorf("%s writes behind what was handed in: %q", what, b[:cap(b)])
		}
	}
	if slices.ContainsFunc(l[len(l):cap(l)], func(b []byte) bool { return b != nil }) {
		t.Errorf("%s writes behind the list: %q", what, l[:cap(l)])
	}
}

// P11.3: records that are handed in are neither kept nor changed.
func TestHandedIn(t *testing.T) {
	b := opened(t, 20)
	for range 2 {
		l := roomy("one", "", "three")
		Marks(l...)
		Mark(Start(), 7, l[0])
		untouched(t, "Mark", l, "one", "", "three")
		n, e := b.h.Add(l...)
		if n != 3 || e != api.OK {
			t.Errorf("Add: %d, %d", n, e)
		}
		untouched(t, "Add", l, "one", "", "three")
		want, head := b.h.All(), b.h.Head()
		scrub(l)
		same(t, want[len(want)-3:], []string{"one", "", "three"})
		if got := b.h.All(); !slices.EqualFunc(got, want, slices.Equal[[]byte]) || b.h.Head() != head {
			t.Errorf("All: %q; want %q", got, want)
		}
		if n, ok := Whole(b.x); n != len(want) || !ok {
			t.Errorf("Whole: %d, %t", n, ok)
		}
	}
	l := append(roomy("a", "b"), make([]byte, 401, 500))
	if n, e := b.h.Add(l...); n != 0 || e != api.ErrLong {
		t.Errorf("Add: %d, %d", n, e)
	}
	untouched(t, "Add", l, "a", "b", string(make([]byte, 401)))
}

// P11.3: what is answered is new memory, each record by itself.
func TestAnswered(t *testing.T) {
	b := opened(t, 20)
	want := []string{"one", "", "three", "one"}
	b.add(t, want...)
	for range 2 { // not committed, and committed
		for no := range want {
			x, e := b.h.Get(no)
			errs(t, "Get", e, api.OK)
			again, _ := b.h.Get(no)
			scrub([][]byte{x})
			same(t, [][]byte{again}, want[no:no+1])
		}
		l, again := b.h.All(), b.h.All()
		for i, one := range l {
			scrub([][]byte{one})
			same(t, l[i+1:], want[i+1:])
		}
		scrub(l)
		same(t, again, want)
		marks := Marks(again...)
		others := Marks(again...)
		clear(marks[:cap(marks)])
		if others[3] != headOf(want...) {
			t.Errorf("two answers of Marks share: %x", others)
		}
		b.tells(t, b.h)
		b.reopen(t)
		b.tells(t, b.h)
		b.commit(t)
	}
}
