package tree

import (
	"fmt"
	"slices"
	"strings"
	"testing"

	"creel/api"
	"creel/inode"
	"creel/mode"
)

// long is a name of 24 signs, that ends with a number.
func long(n int) string { return fmt.Sprintf("%s%02d", strings.Repeat("n", 22), n) }

// deep is a path of so many names.
func deep(n int) []string { return slices.Repeat([]string{"d"}, n) }

// notPaths are lists that aren't paths.
func notPaths() [][]string {
	return [][]string{
		{""}, {"."}, {".."}, {"A"}, {"/"}, {"/a"}, {"a/b"}, {"a "}, {"a\n"}, {"\x00"}, {"\xc3\xa9"}, {strings.Repeat("a", 25)}, {"a", ""}, {"", "a"},
		{"a", ".."}, {"none", "A"}, {"f", "."}, deep(9), deep(10), append(deep(8), "A"), slices.Repeat([]string{"d"}, 1000),
	}
}

// forest is a tree with something of each kind; its table has room for 60 nodes.
func forest(t *testing.T) *bench {
	t.Helper()
	b := planted(t, 400, 60, 300)
	b.plant(t,
		plant{"f", file("one")}, plant{"e", file("")}, plant{"full", file(strings.Repeat("x", 512))},
		plant{"a", dir()}, plant{"a/b", dir()}, plant{"a/b/f", file("two")}, plant{"a/f", file("three")}, plant{"empty", dir()},
		plant{"l", link("a/b")}, plant{"a/b/up", link("..")}, plant{"a/b/side", link("../f")}, plant{"a/b/here", link(".")},
		plant{"a/root", link("/.")}, plant{"a/whole", link("/a/b/f")}, plant{"none", link("nothing")}, plant{"none2", link("a/nothing/x")},
		plant{"into", link("f/x")}, plant{"tofile", link("f")}, plant{"above", link("..")}, plant{"a/above", link("../../a")},
		plant{"blank", link("")}, plant{"slash", link("/")}, plant{"bad", link("a//b")}, plant{"bad2", link("a/")}, plant{"bad3", link("A")}, plant{"bad4", link("a\n")},
		plant{"most", link("/" + strings.Repeat("./", 79) + "f")}, plant{"more", link(strings.Repeat("./", 80) + "f")},
		plant{"way", link("l/side")}, plant{"self", link("self")}, plant{"ping", link("/pong")}, plant{"pong", link("ping")},
	)
	return b
}

// P8.1: going paths, following them, and names.
func TestGo(t *testing.T) {
	b := forest(t)
	gone, led := map[api.Errno]int{}, map[api.Errno]int{}
	paths := [][]string{nil, {}}
	for _, p := range b.m.paths() {
		for _, more := range []string{"", "f", "b", "up", "side", "here", "root", "none", "a/b", "b/f", "f/x", "l/side/x", "root/a/b/f", "here/here/here"} {
			paths = append(paths, slices.Concat(p, at(more)))
		}
	}
	for _, p := range append(paths, notPaths()...) {
		told(t, "forest", b.c, b.m, p)
		_, e := b.c.Get(p...)
		gone[e]++
		_, _, e = b.c.Follow(p...)
		led[e]++
	}
	for _, e := range []api.Errno{api.OK, api.ErrPath, api.ErrNone, api.ErrType} {
		if gone[e] == 0 || led[e] == 0 {
			t.Errorf("no path is %d", e)
		}
	}
	if led[api.ErrLong] == 0 || led[api.ErrLoop] == 0 {
		t.Error("no path is led too far")
	}
}

// P8.1: where some paths lead, told by hand.
func TestFollow(t *testing.T) {
	b := forest(t)
	for p, want := range map[string]string{
		"":  "/",
		"f": "/f", "a": "/a", "a/b/f": "/a/b/f",
		"l": "/a/b", "l/f": "/a/b/f",
		"a/b/up": "/a", "l/up": "/a", "l/up/f": "/a/f", // from the directory it is in, however one came there
		"l/side": "/a/f", "way": "/a/f",
		"l/here/here/here/here/up/f": "/a/f", "l/here/here/here/here/here/up/f": "10",
		"a/root": "/", "a/root/a/root": "/", "a/whole": "/a/b/f",
		"tofile": "/f", "most": "/f",
		"none": "7", "none/x": "7", "none2": "7", "x": "7", "l/x": "7",
		"into": "17", "tofile/x": "17", "f/x": "17", "way/x": "17",
		"above": "10", "above/f": "10", "a/above": "10",
		"blank": "10", "slash": "10", "bad": "10", "bad2": "10", "bad3": "10", "bad4": "10", "bad/x": "10",
		"more": "2", "more/x": "2", "self": "18", "ping": "18", "pong/x": "18",
	} {
		got, _, e := b.c.Follow(at(p)...)
		if text := "/" + strings.Join(got, "/"); e == api.OK && text != want || e != api.OK && fmt.Sprint(int(e)) != want {
			t.Errorf("Follow(%q): %q, %d; want %s", p, got, e, want)
		}
	}
	if _, n, _ := b.c.Follow("way"); string(n.Data) != "three" {
		t.Errorf("Follow(way): %v", n)
	}
	if n, _ := b.c.Get("way"); string(n.Data) != "l/side" || n.Stat != link("").Stat {
		t.Errorf("Get(way): %v", n)
	}
}

// P8.1: the eighth link is followed, the ninth isn't, wherever they stand; it
// is ahead of what is wrong with the ninth.
func TestFollowNine(t *testing.T) {
	for _, last := range []inode.Node{file("x"), dir(), link("//"), link("../.."), link("nothing"), link(strings.Repeat("x", 161))} {
		b := planted(t, 200, 30, 120)
		b.plant(t, plant{"k0", last}, plant{"here", link(".")})
		for i := range 10 {
			b.plant(t, plant{fmt.Sprint("k", i+1), link(fmt.Sprint("/k", i))})
		}
		isLink := last.Stat.Kind == mode.Link
		for i := range 11 {
			_, n, e := b.c.Follow(fmt.Sprint("k", i))
			followed(t, "chain", b.c, b.m, []string{fmt.Sprint("k", i)})
			if !isLink && (e != api.OK) != (i > 8) || i > 8 && e != api.ErrLoop || isLink && i == 8 && e != api.ErrLoop || isLink && i < 8 && (e == api.OK || e == api.ErrLoop) {
				t.Fatalf("%v: %d links: %v, %d", last, i, n, e)
			}
		}
		for links := range 8 {
			for i := range 11 {
				followed(t, "chain behind links", b.c, b.m, append(slices.Repeat([]string{"here"}, links), fmt.Sprint("k", i)))
			}
		}
	}
	b := planted(t, 60, 10, 40)
	b.plant(t, plant{"here", link(".")}, plant{"two", link("here/here")}, plant{"three", link("two/here")})
	for p, want := range map[string]api.Errno{
		"here/here/here/here/here/here/here/here": api.OK,
		"two/two/here/here":                       api.OK,
		"two/two/two":                             api.ErrLoop,
		"three":                                   api.OK,
		"three/here/here/here":                    api.OK,
		"three/here/here/here/here":               api.ErrLoop,
		"here/three/here/here":                    api.OK,
		"here/three/two":                          api.ErrLoop,
		"two/three":                               api.OK,
		"three/three":                             api.ErrLoop,
		"here/here/here/here/here/here/here/two":  api.ErrLoop,
	} {
		_, _, e := b.c.Follow(at(p)...)
		errs(t, p, e, want)
	}
}

// P8.1: where a link leads and the names behind it are more than a path has,
// it is ErrPath, whatever is there; and one name less isn't.
func TestFollowTooDeep(t *testing.T) {
	b := planted(t, 60, 30, 100)
	for n := range 8 {
		b.plant(t, plant{strings.Join(deep(n+1), "/"), dir()})
	}
	b.plant(t, plant{"l", link("d/d/d")}, plant{"x", link("x1/x2/x3")}, plant{"d/d/d/d/d/d/d/l", link("d")}, plant{"d/d/d/d/d/d/d/m", link("d/d")})
	for n := range 8 {
		want := api.OK
		if n > 5 {
			want = api.ErrPath
		}
		p, _, e := b.c.Follow(append([]string{"l"}, deep(n)...)...)
		if e != want || e == api.OK && !slices.Equal(p, deep(3+n)) {
			t.Errorf("Follow(l and %d): %q, %d; want %d", n, p, e, want)
		}
		if want == api.OK {
			want = api.ErrNone
		}
		if p, _, e := b.c.Follow(append([]string{"x"}, deep(n)...)...); e != want || p != nil {
			t.Errorf("Follow(x and %d): %q, %d; want %d", n, p, e, want)
		}
	}
	if p, _, e := b.c.Follow(append(deep(7), "l")...); e != api.OK || !slices.Equal(p, deep(8)) {
		t.Errorf("to the greatest depth: %q, %d", p, e)
	}
	if _, _, e := b.c.Follow(append(deep(7), "m")...); e != api.ErrPath {
		t.Errorf("one deeper: %d", e)
	}
}

// P8.1: names are told rising, byte by byte; links aren't followed.
func TestList(t *testing.T) {
	b := planted(t, 100, 30, 60)
	for _, name := range []string{"b", "a0", "_", "aa", "-", "9", "a", "0", ".x", "...", "a.b", "z", "a-b", "a_b"} {
		b.plant(t, plant{name, file(name)})
	}
	want := []string{"-", "...", ".x", "0", "9", "_", "a", "a-b", "a.b", "a0", "a_b", "aa", "b", "z"}
	if l, e := b.c.List(); e != api.OK || !slices.Equal(l, want) {
		t.Errorf("List(): %q, %d", l, e)
	}
	f := forest(t)
	for p, want := range map[string]api.Errno{"l": api.ErrType, "a/root": api.ErrType, "f": api.ErrType, "x": api.ErrNone, "l/f": api.ErrType, "a/b/A": api.ErrPath, "empty": api.OK} {
		if l, e := f.c.List(at(p)...); e != want || len(l) != 0 {
			t.Errorf("List(%s): %q, %d; want %d", p, l, e, want)
		}
	}
}

// is a stat, of a kind and mode.
func is(kind, m int) mode.Stat { return mode.Stat{Kind: kind, Mode: m} }

// P8.2: what is made is there; which of several errors is told.
func TestMake(t *testing.T) {
	b := forest(t)
	big := strings.Repeat("x", 513)
	for _, c := range []struct {
		n    inode.Node
		at   string
		want api.Errno
	}{
		{file("1"), "new", api.OK},
		{file(""), "a/new", api.OK},
		{dir(), "a/b/new", api.OK},
		{file("2"), "a/b/new/x", api.OK},
		{link(""), "a/b/new/y", api.OK},
		{link("\x00//"), "a/b/new/z", api.OK},
		{link(big[:512]), "long", api.OK},
		{file(big[:512]), "long2", api.OK},
		{inode.Node{Stat: is(mode.File, 4095)}, "setuid", api.OK},
		{inode.Node{Stat: mode.Stat{Kind: mode.Dir, Owner: 65535, Group: 65535}, Data: []byte{}}, "theirs", api.OK},
		// Not a path, ahead of all else.
		{inode.Node{Stat: is(mode.Device, -1), Data: []byte(big)}, "", api.ErrPath},
		{inode.Node{Stat: is(mode.Device, -1), Data: []byte(big)}, "A", api.ErrPath},
		{inode.Node{Stat: is(9, 5000)}, "a/b/c/d/e/f/g/h/i", api.ErrPath},
		{file(""), "a/../b", api.ErrPath},
		// The kind, and a directory's bytes, ahead of the stat.
		{inode.Node{Stat: is(mode.Device, -1), Data: []byte(big)}, "f/x", api.ErrType},
		{inode.Node{Stat: is(mode.Pipe, 0)}, "x", api.ErrType},
		{inode.Node{Stat: is(5, 0)}, "x", api.ErrType},
		{inode.Node{Stat: is(-1, 0)}, "x", api.ErrType},
		{inode.Node{Stat: is(mode.Dir, 4096), Data: []byte("()")}, "x", api.ErrType},
		{inode.Node{Stat: is(mode.Dir, 0), Data: []byte(big)}, "x", api.ErrType},
		// The stat, ahead of how many bytes there are.
		{inode.Node{Stat: is(mode.File, 4096), Data: []byte(big)}, "x/y", api.ErrMode},
		{inode.Node{Stat: is(mode.Link, -1)}, "f", api.ErrMode},
		{inode.Node{Stat: mode.Stat{Kind: mode.Dir, Owner: 65536}}, "x", api.ErrArg},
		{inode.Node{Stat: mode.Stat{Group: -1}, Data: []byte(big)}, "x/y", api.ErrArg},
		// How many they are, ahead of where it would be.
		{file(big), "x", api.ErrLong},
		{file(big), "f", api.ErrLong},
		{link(big), "x/y", api.ErrLong},
		{file(big), "f/x", api.ErrLong},
		// Going there.
		{file(""), "x/y", api.ErrNone},
		{file(""), "x/y/z", api.ErrNone},
		{dir(), "f/x", api.ErrType},
		{dir(), "f/x/y", api.ErrType},
		{file(""), "l/x", api.ErrType},
		{file(""), "a/root/x", api.ErrType},
		// It is there.
		{dir(), "a", api.ErrTwice},
		{file("one"), "f", api.ErrTwice},
		{link(""), "a/b/side", api.ErrTwice},
	} {
		errs(t, "Make "+c.at, b.make(t, c.n, at(c.at)...), c.want)
	}
	for _, p := range notPaths() {
		errs(t, fmt.Sprint("Make ", p), b.make(t, file(""), p...), api.ErrPath)
	}
	errs(t, "Commit", b.commit(t), api.OK)
}

// P8.2: as deep as a path goes, and no deeper.
func TestMakeDeep(t *testing.T) {
	b := planted(t, 200, 30, 100)
	for n := range 9 {
		want := api.OK
		if n == 8 {
			want = api.ErrPath
		}
		errs(t, fmt.Sprint("Make ", n), b.make(t, dir(), deep(n+1)...), want)
	}
	errs(t, "Make", b.make(t, file("x"), append(deep(7), "e")...), api.OK)
	errs(t, "Commit", b.commit(t), api.OK)
}

// P8.2: where no node is free; one that was removed is, in the same change,
// and the lowest one is taken.
func TestMakeNoNode(t *testing.T) {
	b := planted(t, 200, 4, 60)
	b.plant(t, plant{"a", file("a")}, plant{"b", dir()})
	errs(t, "Make", b.make(t, file("c"), "c"), api.OK)
	for _, p := range []string{"d", "b/x"} {
		errs(t, "Make", b.make(t, file("d"), at(p)...), api.ErrFull)
		errs(t, "Make", b.make(t, dir(), at(p)...), api.ErrFull)
	}
	errs(t, "Make", b.make(t, file("d"), "a"), api.ErrTwice)
	errs(t, "Make", b.make(t, file("d"), "a", "x"), api.ErrType)
	errs(t, "Remove", b.remove(t, "c"), api.OK)
	errs(t, "Remove", b.remove(t, "a"), api.OK)
	errs(t, "Make", b.make(t, file("d"), "d"), api.OK)
	errs(t, "Make", b.make(t, file("e"), "e"), api.OK)
	errs(t, "Make", b.make(t, file("f"), "f"), api.ErrFull)
	errs(t, "Rename", b.rename(t, at("e"), at("b/e")), api.OK) // no node more
	errs(t, "Commit", b.commit(t), api.OK)
	if n, e := b.x.Get(1); e != api.OK || string(n.Data) != "d" {
		t.Errorf("node 1: %v, %d", n, e)
	}
	errs(t, "Remove", b.remove(t, "b", "e"), api.OK)
	errs(t, "Commit", b.commit(t), api.OK)
	errs(t, "Make", b.make(t, file("e"), "e"), api.OK)
	alone := planted(t, 60, 1, 20)
	errs(t, "Make", alone.make(t, file(""), "a"), api.ErrFull)
}

// P8.2, P8.3: a directory whose names need just 512 bytes, and one byte more,
// within the root and elsewhere.
func TestFullDirectory(t *testing.T) {
	for _, where := range []string{"", "w"} {
		b := planted(t, 400, 60, 300)
		if where != "" {
			b.plant(t, plant{where, dir()})
		}
		in := func(name string) []string { return append(at(where), name) }
		size := func() int { return len(b.now.coded(at(where), nil)) }
		for i := 0; size() <= 512-36; i++ {
			errs(t, "Make", b.make(t, file(""), in(long(i))...), api.OK)
		}
		// (N:NAMEiNO;) has 9 bytes beside a name of ten signs and more, if the
		// node's number has two digits.
		last := strings.Repeat("x", 512-size()-9)
		errs(t, "Make", b.make(t, dir(), in(last+"x")...), api.ErrFull)
		errs(t, "Make", b.make(t, dir(), in(last)...), api.OK)
		if size() != 512 {
			t.Fatalf("%d bytes", size())
		}
		errs(t, "Make", b.make(t, file(""), in("a")...), api.ErrFull)
		errs(t, "Make", b.make(t, file(""), in(last)...), api.ErrTwice)
		errs(t, "Make", b.make(t, file(""), append(in(last), "y")...), api.OK)
		errs(t, "Commit", b.commit(t), api.OK)
		// Of one that is renamed within the directory the old name is gone.
		errs(t, "Rename", b.rename(t, in(last), in("y"+last)), api.ErrFull)
		errs(t, "Rename", b.rename(t, in(last), in("y"+last[1:])), api.OK)
		last = "y" + last[1:]
		// One from elsewhere is one more, though it may be from within.
		errs(t, "Rename", b.rename(t, append(in(last), "y"), in("a")), api.ErrFull)
		errs(t, "Rename", b.rename(t, in(long(12)), append(in(last), "z")), api.OK)
		errs(t, "Rename", b.rename(t, append(in(last), "y"), in(long(0)+"x")), api.ErrPath)
		errs(t, "Rename", b.rename(t, append(in(last), "y"), in(long(20))), api.OK)
		errs(t, "Rename", b.rename(t, append(in(last), "z"), in("a")), api.ErrFull)
		errs(t, "Remove", b.remove(t, in(long(20))...), api.OK)
		errs(t, "Rename", b.rename(t, append(in(last), "z"), in("a")), api.OK)
		errs(t, "Commit", b.commit(t), api.OK)
	}
}

// P8.2: other bytes; which of several errors is told.
func TestPut(t *testing.T) {
	b := forest(t)
	big := []byte(strings.Repeat("y", 513))
	for _, c := range []struct {
		data []byte
		at   string
		want api.Errno
	}{
		{[]byte("new"), "f", api.OK},
		{nil, "full", api.OK},
		{[]byte{}, "a/f", api.OK},
		{big[:512], "e", api.OK},
		{big[:512], "l", api.OK},
		{nil, "a/root", api.OK},
		{[]byte("/a"), "self", api.OK},
		{big, "f", api.ErrLong},
		{big, "self", api.ErrLong},
		{nil, "", api.ErrType},
		{big, "", api.ErrType},
		{big, "a", api.ErrType},
		{[]byte("()"), "empty", api.ErrType},
		{big, "f/x", api.ErrType},
		{big, "a/root/f", api.ErrType}, // a link isn't followed
		{big, "x", api.ErrNone},
		{nil, "a/x/y", api.ErrNone},
	} {
		errs(t, "Put "+c.at, b.put(t, c.data, at(c.at)...), c.want)
	}
	for _, p := range notPaths() {
		errs(t, fmt.Sprint("Put ", p), b.put(t, big, p...), api.ErrPath)
	}
	errs(t, "Commit", b.commit(t), api.OK)
}

// P8.2: another stat; which of several errors is told.
func TestSet(t *testing.T) {
	b := forest(t)
	for _, c := range []struct {
		s    mode.Stat
		at   string
		want api.Errno
	}{
		{mode.Stat{Kind: mode.File, Mode: 4095, Owner: 65535, Group: 65535}, "f", api.OK},
		{is(mode.File, 0), "full", api.OK},
		{mode.Stat{Kind: mode.Dir, Mode: 0o500, Owner: 9}, "a/b", api.OK},
		{mode.Stat{Kind: mode.Dir, Mode: 0o711, Group: 8}, "", api.OK},
		{is(mode.Link, 1), "a/root", api.OK},
		// The stat, ahead of the path.
		{is(5, 0), "", api.ErrType},
		{is(-1, 9999), "A", api.ErrType},
		{is(mode.File, 4096), "A", api.ErrMode},
		{is(mode.File, -1), "x", api.ErrMode},
		{mode.Stat{Owner: 65536}, "a", api.ErrArg},
		{mode.Stat{Group: -1}, "f/x", api.ErrArg},
		// Going there.
		{is(mode.Pipe, 0), "A", api.ErrPath},
		{is(mode.Device, 0), "x", api.ErrNone},
		{is(mode.File, 0), "f/x", api.ErrType},
		{is(mode.File, 0), "a/root/f", api.ErrType},
		{is(mode.File, 0), "a/x/f", api.ErrNone},
		// Another kind.
		{is(mode.Dir, 0), "f", api.ErrType},
		{is(mode.Link, 0), "f", api.ErrType},
		{is(mode.Device, 0), "f", api.ErrType},
		{is(mode.Pipe, 0), "f", api.ErrType},
		{is(mode.File, 0), "", api.ErrType},
		{is(mode.File, 0), "a", api.ErrType},
		{is(mode.File, 0), "l", api.ErrType},
		{is(mode.Dir, 0), "l", api.ErrType},
	} {
		errs(t, "Set "+c.at, b.set(t, c.s, at(c.at)...), c.want)
	}
	for _, p := range notPaths() {
		errs(t, fmt.Sprint("Set ", p), b.set(t, is(mode.File, 0), p...), api.ErrPath)
	}
	errs(t, "Commit", b.commit(t), api.OK)
}

// P8.3: what is removed isn't there; which of several errors is told.
func TestRemove(t *testing.T) {
	b := forest(t)
	for _, c := range []struct {
		at   string
		want api.Errno
	}{
		{"", api.ErrPath},
		{"x", api.ErrNone},
		{"a/x", api.ErrNone},
		{"f/x", api.ErrType},
		{"f/x/y", api.ErrType},
		{"l/f", api.ErrType},
		{"a", api.ErrBusy},
		{"a/b", api.ErrBusy},
		{"l", api.OK}, // the link, and not where it leads
		{"l", api.ErrNone},
		{"f", api.OK},
		{"full", api.OK},
		{"empty", api.OK},
		{"empty/x", api.ErrNone},
		{"a/b/f", api.OK}, {"a/b/up", api.OK}, {"a/b/side", api.OK},
		{"a/b", api.ErrBusy},
		{"a/b/here", api.OK},
		{"a/b", api.OK},
		{"a", api.ErrBusy},
		{"a/f", api.OK}, {"a/root", api.OK}, {"a/whole", api.OK}, {"a/above", api.OK},
		{"a", api.OK},
	} {
		errs(t, "Remove "+c.at, b.remove(t, at(c.at)...), c.want)
	}
	for _, p := range notPaths() {
		errs(t, fmt.Sprint("Remove ", p), b.remove(t, p...), api.ErrPath)
	}
	errs(t, "Commit", b.commit(t), api.OK)
	for _, p := range b.m.paths()[1:] {
		errs(t, "Remove", b.remove(t, p...), api.OK)
	}
	errs(t, "Commit", b.commit(t), api.OK)
	if l := b.f.Walk(); l != nil {
		t.Errorf("Walk: %v", l)
	}
}

// P8.3: what is renamed stands there, with all within it; which of several
// errors is told.
func TestRename(t *testing.T) {
	b := forest(t)
	for _, c := range []struct {
		from, to string
		want     api.Errno
	}{
		// Not paths, and within from, ahead of all else.
		{"", "", api.ErrPath}, {"", "x", api.ErrPath}, {"x", "", api.ErrPath}, {"", "f", api.ErrPath}, {"f", "", api.ErrPath},
		{"A", "x", api.ErrPath}, {"f", "A", api.ErrPath}, {"x", "A", api.ErrPath}, {"f/x", "f/X", api.ErrPath}, {"a", "1/2/3/4/5/6/7/8/9", api.ErrPath},
		{"f", "f", api.ErrPath}, {"a", "a", api.ErrPath}, {"a", "a/b", api.ErrPath}, {"a", "a/x", api.ErrPath}, {"a/b", "a/b/f/x", api.ErrPath},
		{"x", "x/y", api.ErrPath}, {"x", "x", api.ErrPath}, {"f", "f/x", api.ErrPath}, {"f/x", "f/x/y", api.ErrPath},
		// Going to from, and then to what is ahead of to's last name.
		{"x", "f", api.ErrNone}, {"x", "f/y", api.ErrNone}, {"f/x", "none/y", api.ErrType}, {"f/x", "y/z", api.ErrType}, {"l/f", "a/f", api.ErrType},
		{"f", "x/y", api.ErrNone}, {"f", "e/y", api.ErrType}, {"f", "e/y/z", api.ErrType}, {"f", "l/y", api.ErrType}, {"f", "x/y/z", api.ErrNone},
		// It is there.
		{"f", "e", api.ErrTwice}, {"f", "a", api.ErrTwice}, {"a", "empty", api.ErrTwice}, {"a/b", "a", api.ErrTwice}, {"a/b/f", "a/b", api.ErrTwice},
		{"a/b", "a/f", api.ErrTwice}, {"l", "none", api.ErrTwice},
		// In one directory, to another one, up and down.
		{"f", "fff", api.OK}, {"f", "g", api.ErrNone}, {"fff", "a/b/g", api.OK}, {"a/b/g", "f", api.OK},
		{"a/b", "b", api.OK}, {"b", "a/c", api.OK}, {"a/c", "empty/c", api.OK}, {"empty", "a/e", api.OK}, {"a/e/c", "a/b", api.OK},
		{"a", "z", api.OK}, {"z/e", "e2", api.OK}, {"l", "k", api.OK}, {"k", "z/b/k", api.OK}, {"a", "y", api.ErrNone}, {"z", "a", api.OK},
	} {
		errs(t, fmt.Sprint("Rename ", c.from, " ", c.to), b.rename(t, at(c.from), at(c.to)), c.want)
	}
	for _, p := range notPaths() {
		errs(t, fmt.Sprint("Rename from ", p), b.rename(t, p, at("new")), api.ErrPath)
		errs(t, fmt.Sprint("Rename to ", p), b.rename(t, at("f"), p), api.ErrPath)
	}
	errs(t, "Commit", b.commit(t), api.OK)
}

// P8.3: what is moved may go as deep as a path does, with all within it; that
// is ErrPath ahead of ErrFull.
func TestRenameDeep(t *testing.T) {
	for height := range 9 {
		for to := 1; to <= 8; to++ {
			b := planted(t, 400, 40, 200)
			errs(t, "Make", b.make(t, dir(), "m"), api.OK)
			for n := range height {
				if n == 7 {
					break
				}
				errs(t, "Make", b.make(t, dir(), append([]string{"m"}, deep(n+1)...)...), api.OK)
				errs(t, "Make", b.make(t, file("x"), append([]string{"m"}, append(deep(n), "c")...)...), api.OK)
			}
			for n := range to - 1 {
				errs(t, "Make", b.make(t, dir(), deep(n+1)...), api.OK)
			}
			want := api.OK
			if min(height, 7)+to > 8 {
				want = api.ErrPath
			}
			errs(t, fmt.Sprintf("%d high, to %d", height, to), b.rename(t, at("m"), append(deep(to-1), "e")), want)
			errs(t, "Commit", b.commit(t), api.OK)
		}
	}
	b := planted(t, 400, 60, 300)
	b.plant(t, plant{"m", dir()}, plant{"m/x", dir()}, plant{"m/x/y", file("")})
	for n := range 6 {
		b.plant(t, plant{strings.Join(deep(n+1), "/"), dir()})
	}
	for i := 0; b.make(t, file(""), append(deep(6), long(i))...) == api.OK; i++ {
		errs(t, "Make", b.make(t, file(""), append(deep(5), long(i))...), api.OK)
	}
	errs(t, "full, and too deep", b.rename(t, at("m"), append(deep(6), long(99))), api.ErrPath)
	errs(t, "full, and just so deep", b.rename(t, at("m/x"), append(deep(6), long(99))), api.ErrFull)
	errs(t, "there, and too deep", b.rename(t, at("m"), append(deep(6), long(0))), api.ErrTwice)
}

// P8.4: how many nodes are another one than they were.
func TestCount(t *testing.T) {
	b := forest(t)
	done := func(want int, l ...api.Errno) {
		t.Helper()
		for _, e := range l {
			errs(t, "an error", e, api.OK)
		}
		if b.c.Count() != want {
			t.Fatalf("Count: %d; want %d", b.c.Count(), want)
		}
	}
	done(0)
	done(0, b.put(t, []byte("one"), "f"), b.put(t, nil, "e"), b.set(t, dir().Stat, "a"), b.set(t, is(mode.Dir, 493)))
	done(1, b.put(t, []byte("two"), "f"))
	done(1, b.set(t, is(mode.File, 1), "f"))
	done(1, b.put(t, []byte("one"), "f"))
	done(0, b.set(t, file("").Stat, "f"))
	done(2, b.make(t, file(""), "new"))
	done(2, b.put(t, []byte("x"), "new"))
	done(3, b.put(t, []byte("x"), "e"))
	done(1, b.remove(t, "new"))
	done(0, b.put(t, nil, "e"))
	done(2, b.remove(t, "f"))
	done(0, b.make(t, file("one"), "f"))
	done(2, b.remove(t, "f"))
	done(2, b.make(t, file("two"), "f2"))
	done(1, b.rename(t, at("f2"), at("f")))
	done(0, b.put(t, []byte("one"), "f"))
	done(1, b.rename(t, at("f"), at("f2")))
	done(2, b.rename(t, at("f2"), at("a/f2")))
	done(3, b.rename(t, at("a/b"), at("b")), b.rename(t, at("a/f2"), at("b/f2")))
	done(0, b.rename(t, at("b/f2"), at("f")), b.rename(t, at("b"), at("a/b")))
	if e := b.make(t, file(""), "f"); e != api.ErrTwice || b.c.Count() != 0 {
		t.Fatalf("Count: %d beside %d", b.c.Count(), e)
	}
	errs(t, "Commit", b.commit(t), api.OK)
}

// P8.4: a change that was committed, or overtaken by another one, is ErrState
// and lays nothing; one that was only begun, or had an error, overtakes none.
func TestCommitOnce(t *testing.T) {
	b := forest(t)
	idle, other := b.f.Begin(), b.f.Begin()
	errs(t, "Make", idle.Make(file("idle"), "new"), api.OK)
	if n, e := b.f.Begin().Get("new"); e != api.ErrNone {
		t.Fatalf("what isn't committed is there: %v", n)
	}
	errs(t, "Make", b.make(t, file("x"), "new"), api.OK)
	if other.Count() != 0 || idle.Count() != 2 {
		t.Fatalf("Count: %d and %d", other.Count(), idle.Count())
	}
	over := b.c
	errs(t, "Commit", b.commit(t), api.OK)
	for what, c := range map[string]*Change{"committed": over, "overtaken": idle, "overtaken, nothing done": other} {
		laid := b.d.Laid()
		if e := c.Commit(); e != api.ErrState || c.Count() != 0 {
			t.Fatalf("%s: Commit: %d, Count: %d", what, e, c.Count())
		}
		if string(b.d.Laid()) != string(laid) {
			t.Fatalf("%s: the disk isn't as it was", what)
		}
		for _, p := range [][]string{nil, at("f"), at("l/f"), at("x"), at("A")} { // an end, and no panic
			_, _ = c.Get(p...)
			_, _, _ = c.Follow(p...)
			_, _ = c.List(p...)
			_, _, _, _, _ = c.Make(file(""), p...), c.Put(nil, p...), c.Set(file("").Stat, p...), c.Remove(p...), c.Rename(p, p)
		}
		errs(t, what, c.Commit(), api.ErrState)
	}
	b.stands(t)
	// One in which nothing was done is committed as well.
	first, second := b.f.Begin(), b.f.Begin()
	errs(t, "Make", second.Make(file(""), "second"), api.OK)
	done := b.l.Done()
	errs(t, "Commit of nothing", first.Commit(), api.OK)
	errs(t, "Commit of nothing, again", first.Commit(), api.ErrState)
	errs(t, "Commit, overtaken", second.Commit(), api.ErrState)
	if b.l.Done() != done {
		t.Fatal("a transaction of nothing")
	}
	// Changes of another tree don't.
	c, f := b.f.Begin(), forest(t)
	errs(t, "Make", c.Make(file(""), "third"), api.OK)
	errs(t, "Remove", f.remove(t, "f"), api.OK)
	errs(t, "Commit", f.commit(t), api.OK)
	errs(t, "Commit", c.Commit(), api.OK)
}

// P8.4: a change of just as many nodes as the table's log takes, and one more:
// it is as it was beside the error, and so are others; mended it is committed.
func TestCommitFull(t *testing.T) {
	b := planted(t, 6, 8, 20)
	for _, name := range []string{"a", "b", "c", "d"} {
		b.plant(t, plant{name, file("")})
	}
	s := is(mode.File, 0o600)
	for _, name := range []string{"a", "b", "c"} {
		errs(t, "Set", b.set(t, s, name), api.OK)
	}
	errs(t, "Commit of three", b.commit(t), api.OK)
	for _, name := range []string{"a", "b", "c", "d"} {
		errs(t, "Set", b.set(t, file("").Stat, name), api.OK)
	}
	errs(t, "Set", b.set(t, s, "d"), api.OK)
	other := b.f.Begin()
	errs(t, "Commit of four", b.commit(t), api.ErrFull)
	errs(t, "Commit of four, again", b.commit(t), api.ErrFull)
	errs(t, "Set", b.set(t, s, "a"), api.OK)
	errs(t, "Commit of three", b.commit(t), api.OK)
	errs(t, "Commit of nothing, overtaken", other.Commit(), api.ErrState)

	// Blocks are in want, too.
	b = planted(t, 100, 8, 3)
	errs(t, "Make", b.make(t, file(strings.Repeat("x", 129)), "a"), api.OK)
	errs(t, "Commit of too many bytes", b.commit(t), api.ErrFull)
	errs(t, "Put", b.put(t, []byte(strings.Repeat("x", 128)), "a"), api.OK)
	errs(t, "Commit", b.commit(t), api.OK)
}

// P8.4: the table's error; beside it the change is as it was, and isn't over.
func TestCommitDown(t *testing.T) {
	b := forest(t)
	errs(t, "Make", b.make(t, file("x"), "new"), api.OK)
	none := b.f.Begin()
	b.d.Crash()
	b.twin.Crash()
	errs(t, "Commit without power", b.c.Commit(), api.ErrDown)
	errs(t, "Commit of nothing without power", none.Commit(), api.ErrDown)
	tells(t, "without power", b.c, b.now)
	walks(t, "without power", b.f, b.m)
	if b.c.Count() != 2 {
		t.Errorf("Count: %d", b.c.Count())
	}
	b.d.Power()
	b.twin.Power()
	errs(t, "Commit", b.commit(t), api.OK)
}

// P8.4: what Walk answers, told by hand: what is in a directory behind it, and
// ahead of names that begin as it does; of directories no bytes.
func TestWalk(t *testing.T) {
	b := planted(t, 200, 20, 60)
	b.plant(t, plant{"a", dir()}, plant{"a-", file("1")}, plant{"a/b", dir()}, plant{"a0", link("2")}, plant{"a/b/z", file("3")}, plant{"a/b-", file("4")}, plant{"-", dir()}, plant{"a/a", file("5")})
	want := []string{"/-", "/a", "/a/a=5", "/a/b", "/a/b/z=3", "/a/b-=4", "/a-=1", "/a0=2"}
	var got []string
	for _, x := range b.f.Walk() {
		s := text(x.Path)
		if x.Node.Data != nil {
			s += "=" + string(x.Node.Data)
		}
		got = append(got, s)
	}
	if !slices.Equal(got, want) {
		t.Errorf("Walk: %q; want %q", got, want)
	}
	errs(t, "Remove", b.remove(t, "a-"), api.OK)
	walks(t, "ahead of Commit", b.f, b.m)
}

// P8.4, P1: of nil, and of what was never opened or begun, all is ErrState, and
// nothing.
func TestNil(t *testing.T) {
	var f *Tree
	var c *Change
	if f.Begin() != nil || f.Walk() != nil || new(Tree).Walk() != nil || new(Change).Count() != 0 || c.Count() != 0 {
		t.Error("something of a nil tree or change")
	}
	stats := []mode.Stat{{}, is(9, 9999)}
	for _, c := range []*Change{nil, {}, new(Tree).Begin()} {
		for _, p := range [][]string{nil, at("f"), at("f/x"), {"A"}, {""}, deep(9)} {
			if c == nil || c.tree == nil || isPath(p) { // of a tree in no table a list that is no path may be told first
				n, e := c.Get(p...)
				to, n2, e2 := c.Follow(p...)
				l, e3 := c.List(p...)
				if e != api.ErrState || e2 != api.ErrState || e3 != api.ErrState || n.Data != nil || n2.Data != nil || to != nil || l != nil {
					t.Errorf("%q: %v, %d; %q, %v, %d; %q, %d", p, n, e, to, n2, e2, l, e3)
				}
				errs(t, "Put", c.Put(make([]byte, 600), p...), api.ErrState)
			}
			if c != nil && c.tree != nil {
				continue
			}
			for _, s := range stats {
				errs(t, "Make", c.Make(inode.Node{Stat: s}, p...), api.ErrState)
				errs(t, "Set", c.Set(s, p...), api.ErrState)
			}
			errs(t, "Remove", c.Remove(p...), api.ErrState)
			errs(t, "Rename", c.Rename(p, p), api.ErrState)
			errs(t, "Rename", c.Rename(p, at("x")), api.ErrState)
		}
		errs(t, "Commit", c.Commit(), api.ErrState)
		if c.Count() != 0 {
			t.Errorf("Count: %d", c.Count())
		}
	}
	c = new(Tree).Begin()
	errs(t, "Make", c.Make(file(""), "f"), api.ErrState)
	errs(t, "Set", c.Set(file("").Stat, "f"), api.ErrState)
	errs(t, "Remove", c.Remove("f"), api.ErrState)
	errs(t, "Rename", c.Rename(at("f"), at("x")), api.ErrState)
}
