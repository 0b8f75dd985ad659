package store

import (
	"reflect"
	"slices"
	"testing"

	"creel/api"
)

// roomy is a package whose revisions have room behind them.
func roomy(name string, nos ...int) Package {
	p := pack(name, nos...)
	p.Revs = append(make([]Rev, 0, 10), p.Revs...)
	return p
}

// scrub writes over all revisions, in all their room.
func scrub(l []Rev) {
	for i := range l[:cap(l)] {
		l[:cap(l)][i] = Rev{77, seal(77), 77}
	}
}

// scratch writes over a list of names, in all its room.
func scratch(l []string) {
	for i := range l[:cap(l)] {
		l[:cap(l)][i] = "scratch"
	}
}

// untouched wants a list to be as it was, with nothing in the room behind it.
func untouched[X comparable](t *testing.T, l []X, want ...X) {
	t.Helper()
	var none X
	behind := l[len(l):cap(l)]
	if !slices.Equal(l, want) || slices.ContainsFunc(behind, func(x X) bool { return x != none }) {
		t.Errorf("what was handed in is changed: %v", l[:cap(l)])
	}
}

// P10.1, P10.4: the revisions that are handed in are neither kept nor changed.
func TestRevisionsHandedIn(t *testing.T) {
	b := opened(t, 20)
	for _, nos := range [][]int{{1}, {1, 2, 3}, {2, 1}, {1, 2, 3, 4}} { // a new one, one that is there, and wrong ones
		p := roomy("a", nos...)
		b.save(t, p)
		Check(p)
		Same(p, p)
		untouched(t, p.Revs, pack("a", nos...).Revs...)
		scrub(p.Revs)
		b.asked(t, "a")
	}
	b.commit(t)
	if p, e := b.s.Package("a"); e != api.OK || !Same(p, pack("a", 1, 2, 3)) {
		t.Errorf("Package: %v, %d", p, e)
	}
}

// P10.4: names that are handed in are neither kept nor changed.
func TestNamesHandedIn(t *testing.T) {
	b := opened(t, 20)
	for _, name := range []string{"a", "b", "c"} {
		b.save(t, pack(name, 1))
		b.connect(t, net(name, "a"))
	}
	for _, names := range [][]string{{"c", "a", "none"}, {"b", "A"}, {"b"}} {
		l := append(make([]string, 0, 10), names...)
		b.ends(t, l...)
		untouched(t, l, names...)
		b.drop(t, l...)
		untouched(t, l, names...)
		scratch(l)
		b.asked(t, "a", "b", "c")
	}
	b.commit(t)
}

// P10.4: what is answered is new memory, the revisions of each package, too.
func TestAnswered(t *testing.T) {
	b := opened(t, 20)
	want := []Package{pack("a", 1, 2), pack("b", 1), pack("c", 1, 2, 3)}
	for _, p := range want {
		b.save(t, p)
	}
	b.connect(t, net("a", "b"))
	b.connect(t, net("b", "c"))
	for range 2 { // not committed, and committed
		p, _ := b.s.Package("a")
		q, _ := b.s.Package("a")
		scrub(p.Revs)
		if !Same(q, want[0]) {
			t.Errorf("two answers of Package share: %v", q)
		}
		l, e := b.s.Packages()
		errs(t, "Packages", e, api.OK)
		again, _ := b.s.Packages()
		for i := range l {
			scrub(l[i].Revs)
			if !reflect.DeepEqual(l[i+1:], want[i+1:]) {
				t.Errorf("behind %d: what is in one answer is shared: %v", i, l)
			}
		}
		for i := range l[:cap(l)] {
			l[:cap(l)][i] = Package{Name: "scratch"}
		}
		if !reflect.DeepEqual(again, want) {
			t.Errorf("two answers of Packages share: %v", again)
		}
		conns, e := b.s.Conns()
		errs(t, "Conns", e, api.OK)
		others, _ := b.s.Conns()
		for i := range conns[:cap(conns)] {
			conns[:cap(conns)][i] = net("scratch", "scratch")
		}
		if len(others) != 2 || slices.Contains(others, net("scratch", "scratch")) {
			t.Errorf("two answers of Conns share: %q", others)
		}
		b.asked(t, "a", "b", "c")
		b.commit(t)
	}
}
