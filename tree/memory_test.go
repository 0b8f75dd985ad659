package tree

import (
	"slices"
	"strings"
	"testing"

	"creel/api"
	"creel/inode"
)

// scratch writes over lists of names, in all their room.
func scratch(l ...[]string) {
	for _, p := range l {
		p = p[:cap(p)]
		for i := range p {
			p[i] = "scratch"
		}
	}
}

// scrub writes over bytes, in all their room.
func scrub(l ...[]byte) {
	for _, b := range l {
		b = b[:cap(b)]
		for i := range b {
			b[i] = '#'
		}
	}
}

// roomy is a list with room behind it.
func roomy(names ...string) []string { return append(make([]string, 0, 20), names...) }

// P8.5: what is handed in isn't kept, and what is behind it isn't changed.
func TestHandedIn(t *testing.T) {
	b := planted(t, 400, 30, 100)
	kept := func(p []string, want ...string) {
		t.Helper()
		if !slices.Equal(p, want) || slices.ContainsFunc(p[len(p):cap(p)], func(s string) bool { return s != "" }) {
			t.Fatalf("%q, that was handed in, is changed", p[:cap(p)])
		}
		scratch(p)
	}
	for _, at := range []string{"a", "a/b", "a/f", "l", "a/b/g"} {
		names, n := strings.Split(at, "/"), dir()
		if at == "a/f" || at == "a/b/g" {
			n = file("bytes of " + at)
		}
		if at == "l" {
			n = link("a")
		}
		p, whole := roomy(names...), slices.Clone(n.Data)
		errs(t, "Make", b.make(t, inode.Node{Stat: n.Stat, Data: whole}, p...), api.OK)
		if string(whole) != string(n.Data) {
			t.Fatalf("%q, that was handed in, is changed", whole)
		}
		kept(p, names...)
		scrub(whole)
	}
	data := []byte("other bytes")
	p := roomy("a", "f")
	errs(t, "Put", b.put(t, data, p...), api.OK)
	kept(p, "a", "f")
	scrub(data)
	p = roomy("a", "f")
	errs(t, "Set", b.set(t, file("").Stat, p...), api.OK)
	kept(p, "a", "f")
	tells(t, "scratched", b.c, b.now)
	p, q := roomy("a", "b"), roomy("b")
	errs(t, "Rename", b.rename(t, p, q), api.OK)
	kept(p, "a", "b")
	kept(q, "b")
	p = roomy("l", "f")
	_, _, e := b.c.Follow(p...)
	errs(t, "Follow", e, api.OK)
	kept(p, "l", "f")
	p = roomy("b", "g")
	errs(t, "Remove", b.remove(t, p...), api.OK)
	kept(p, "b", "g")
	tells(t, "scratched", b.c, b.now)
	errs(t, "Commit", b.commit(t), api.OK)
}

// P8.5: what is answered is nobody else's, ahead of a commit and behind it.
func TestAnswered(t *testing.T) {
	b := forest(t)
	for range 2 {
		for _, p := range append(b.m.paths(), at("l/f"), at("l/up/b")) {
			asked := append([]string{}, p...)
			n, e := b.c.Get(p...)
			errs(t, "Get", e, b.now.goes(p))
			scrub(n.Data)
			to, n, _ := b.c.Follow(p...)
			scrub(n.Data)
			scratch(to)
			l, _ := b.c.List(p...)
			scratch(l)
			if !slices.Equal(asked, p) {
				t.Fatalf("%q was %q", p, asked)
			}
		}
		items := b.f.Walk()
		for _, x := range items {
			scratch(x.Path[len(x.Path):])
			scrub(x.Node.Data[len(x.Node.Data):])
		}
		for i, x := range items { // each has its own
			if want := b.f.Walk()[i]; !slices.Equal(x.Path, want.Path) || !inode.Same(x.Node, want.Node) {
				t.Fatalf("item %d is %v; want %v", i, x, want)
			}
			scratch(x.Path)
			scrub(x.Node.Data)
		}
		tells(t, "written over", b.c, b.now)
		b.stands(t)
		// The same with what is in a change only.
		errs(t, "Put", b.put(t, []byte("put"), "f"), api.OK)
		errs(t, "Make", b.make(t, file("made"), "empty", "made"), api.OK)
		errs(t, "Make", b.make(t, link("/a/b"), "empty", "link"), api.OK)
		for _, p := range [][]string{at("f"), at("empty/made"), at("empty/link"), at("empty")} {
			n, e := b.c.Get(p...)
			errs(t, "Get", e, api.OK)
			scrub(n.Data)
			to, n, e := b.c.Follow(p...)
			errs(t, "Follow", e, api.OK)
			scrub(n.Data)
			scratch(to)
		}
		tells(t, "written over", b.c, b.now)
		b.begin()
	}
	errs(t, "Commit", b.commit(t), api.OK)
}
