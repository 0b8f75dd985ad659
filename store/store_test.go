package store

import (
	"fmt"
	"reflect"
	"slices"
	"strings"
	"testing"

	"creel/api"
	"creel/codec"
	"creel/inode"
	"creel/mode"
	"creel/tree"
)

// long is a name of 24 signs, that ends with a number.
func long(n int) string { return fmt.Sprintf("%s%02d", strings.Repeat("n", 22), n) }

// noNames are texts that are no names.
func noNames() []string {
	return []string{"", ".", "..", "A", "/", "a/b", "../a", "a ", "a\n", "\x00", "\xc3\xa9", strings.Repeat("a", 25)}
}

// names are texts that are names.
func names() []string { return []string{"a", "0", "...", "-", "_.", "sys.packages", long(1)} }

// rev is a revision of that number.
func rev(no int) Rev { return Rev{No: no, Seal: seal(byte(no)), Size: no&127 + 7} }

// seal has other bytes in each place.
func seal(first byte) [32]byte {
	var s [32]byte
	for i := range s {
		s[i] = first + byte(i*9)
	}
	return s
}

// pack is a package whose revisions have these numbers, the last one active.
func pack(name string, nos ...int) Package {
	p := Package{Name: name, Publisher: "ann"}
	for _, no := range nos {
		p.Revs = append(p.Revs, rev(no))
		p.Active = no
	}
	return p
}

// net is a connection of two packages' first ends.
func net(plug, slot string) Conn {
	return Conn{Plug: [2]string{plug, "p"}, Slot: [2]string{slot, "s"}, Interface: "net"}
}

// full is a package that has the greatest of all.
func full(name string) Package {
	all := Package{Name: name, Publisher: long(9), Active: 999999}
	for i := range 3 {
		all.Revs = append(all.Revs, Rev{999997 + i, seal(byte(250 + i)), 131072})
	}
	return all
}

// with is a package that is changed.
func with(p Package, change func(p *Package)) Package {
	p.Revs = slices.Clone(p.Revs)
	change(&p)
	return p
}

// P10.1: which error a package has; several at once have the one named first.
func TestCheck(t *testing.T) {
	no := func(i, no int) Package { return with(pack("a", 1, 2, 3), func(p *Package) { p.Revs[i].No = no }) }
	size := func(i, size int) Package {
		return with(pack("a", 1, 2, 3), func(p *Package) { p.Revs[i].Size = size })
	}
	active := func(no int, nos ...int) Package {
		return with(pack("a", nos...), func(p *Package) { p.Active = no })
	}
	for i, c := range []struct {
		p    Package
		want api.Errno
	}{
		{pack("a", 1), api.OK}, {pack("a", 1, 2), api.OK}, {pack("a", 1, 2, 3), api.OK}, {pack("a", 999999), api.OK},
		{pack("a", 1, 500, 999999), api.OK}, {pack("a", 999997, 999998, 999999), api.OK}, {full(long(1)), api.OK},
		{pack("a"), api.ErrLong}, {Package{Name: "a", Publisher: "b", Revs: []Rev{}}, api.ErrLong}, {pack("a", 1, 2, 3, 4), api.ErrLong}, {pack("a", make([]int, 50)...), api.ErrLong},
		{pack("a", 0), api.ErrArg}, {pack("a", -1), api.ErrArg}, {pack("a", 1000000), api.ErrArg}, {pack("a", -1<<63), api.ErrArg}, {pack("a", 1<<63-1), api.ErrArg},
		{pack("a", 0, 1), api.ErrArg}, {pack("a", 1, 1000000), api.ErrArg}, {pack("a", 1, 2, 1000000), api.ErrArg}, {pack("a", -2, -1, 1), api.ErrArg},
		{pack("a", 1, 1), api.ErrArg}, {pack("a", 2, 1), api.ErrArg}, {pack("a", 1, 2, 2), api.ErrArg}, {pack("a", 1, 1, 2), api.ErrArg}, {pack("a", 1, 3, 2), api.ErrArg}, {pack("a", 2, 1, 3), api.ErrArg}, {pack("a", 3, 2, 1), api.ErrArg},
		{no(0, 2), api.ErrArg}, {no(1, 1), api.ErrArg}, {no(2, 2), api.ErrArg}, {no(2, 0), api.ErrArg},
		{size(0, 0), api.OK}, {size(1, 131072), api.OK}, {size(2, 131072), api.OK},
		{size(0, 131073), api.ErrArg}, {size(1, 131073), api.ErrArg}, {size(2, 131073), api.ErrArg}, {size(0, -1), api.ErrArg}, {size(1, -1), api.ErrArg}, {size(2, -1), api.ErrArg}, {size(2, 1<<63-1), api.ErrArg}, {size(0, -1<<63), api.ErrArg},
		{active(1, 1, 2, 3), api.OK}, {active(2, 1, 2, 3), api.OK}, {active(3, 1, 2, 3), api.OK},
		{active(0, 1, 2, 3), api.ErrNone}, {active(4, 1, 2, 3), api.ErrNone}, {active(2, 1, 3), api.ErrNone}, {active(-1, 1), api.ErrNone}, {active(1000000, 1), api.ErrNone}, {active(3, 1, 2), api.ErrNone},
		// Which is told.
		{active(5, 2, 1), api.ErrArg}, {active(5), api.ErrLong}, {active(0, 3, 2, 1, 0), api.ErrLong}, {pack("A"), api.ErrPath}, {pack("A", 2, 1), api.ErrPath}, {active(0, 0), api.ErrArg},
		{Package{}, api.ErrPath}, {Package{Name: "a"}, api.ErrPath}, {Package{Publisher: "a"}, api.ErrPath}, {Package{Name: "a", Publisher: "b"}, api.ErrLong},
	} {
		if got := Check(c.p); got != c.want || refusal(c.p) != c.want {
			t.Errorf("%d: Check(%v): %d, and %d; want %d", i, c.p, got, refusal(c.p), c.want)
		}
	}
}

// P10.1: names of a package.
func TestCheckNames(t *testing.T) {
	for _, name := range names() {
		errs(t, "Check of "+name, Check(with(pack(name, 1), func(p *Package) { p.Publisher = name })), api.OK)
	}
	for _, bad := range noNames() {
		for _, p := range []Package{pack(bad, 1), with(pack("a", 1), func(p *Package) { p.Publisher = bad }), with(pack(bad), func(p *Package) { p.Publisher = bad })} {
			errs(t, fmt.Sprintf("Check(%v)", p), Check(p), api.ErrPath)
		}
	}
}

// places are the texts of a connection.
func places(c *Conn) []*string {
	return []*string{&c.Plug[0], &c.Plug[1], &c.Slot[0], &c.Slot[1], &c.Interface}
}

// P10.1: a connection is right if all five are names, whichever.
func TestRight(t *testing.T) {
	if !Right(net("a", "b")) || !Right(net("a", "a")) || Right(Conn{}) {
		t.Error("Right")
	}
	for i := range 5 {
		for _, name := range names() {
			c := net("a", "b")
			*places(&c)[i] = name
			if !Right(c) || !isConn(c) {
				t.Errorf("Right(%q): false", c)
			}
		}
		for _, bad := range noNames() {
			c := net("a", "b")
			*places(&c)[i] = bad
			if Right(c) || isConn(c) {
				t.Errorf("Right(%q): true", c)
			}
		}
	}
}

// alikes are connections whose four texts, joined, are the same.
func alikes() []Conn {
	return []Conn{
		{[2]string{"ab", "c"}, [2]string{"d", "e"}, "net"}, {[2]string{"a", "bc"}, [2]string{"d", "e"}, "net"},
		{[2]string{"a", "b"}, [2]string{"cd", "e"}, "net"}, {[2]string{"a", "b"}, [2]string{"c", "de"}, "net"},
		{[2]string{"abc", "d"}, [2]string{"e", ""}, "net"}, {[2]string{"", ""}, [2]string{"", "abcde"}, "net"},
	}
}

// P10.1: a connection's key is of its four texts, each by itself, and not of the
// interface; also where it isn't right.
func TestKey(t *testing.T) {
	if got := Key(Conn{[2]string{"tool", "p"}, [2]string{"app", "s"}, "net"}); got != "c9f4c665de69c312b" {
		t.Errorf("Key: %q", got)
	}
	l := append(alikes(), net("a", "b"), net("b", "a"), Conn{}, net(strings.Repeat("a", 300), "A"))
	for i := range 5 {
		c := net("a", "b")
		*places(&c)[i] += "x"
		l = append(l, c)
	}
	met := map[string]Conn{}
	for _, c := range l {
		key := Key(c)
		if key != keyOf(c) || len(key) != 17 || !isName(key) {
			t.Errorf("Key(%q): %q; want %q", c, key, keyOf(c))
		}
		if x, there := met[key]; there && (x.Plug != c.Plug || x.Slot != c.Slot) {
			t.Errorf("%q and %q have one key", x, c)
		}
		met[key] = c
		other := c
		other.Interface += "x"
		if Key(other) != key {
			t.Errorf("Key(%q) isn't that of another interface", c)
		}
	}
	if len(met) != len(l)-1 {
		t.Errorf("%d keys of %d connections", len(met), len(l))
	}
}

// P10.1: packages are the same if all is, right or not.
func TestSame(t *testing.T) {
	l := []Package{{}, pack("a"), pack("a", 1), pack("b", 1), pack("a", 2), pack("a", 1, 2), pack("a", 2, 1), full("a"), pack("a", 1, 2, 3, 4)}
	for _, change := range []func(p *Package){
		func(p *Package) { p.Name = "x" }, func(p *Package) { p.Publisher = "x" }, func(p *Package) { p.Active = 1 },
		func(p *Package) { p.Revs[0].No = 9 }, func(p *Package) { p.Revs[2].No = 9 }, func(p *Package) { p.Revs[1].Size = 9 },
		func(p *Package) { p.Revs[2].Size = 9 }, func(p *Package) { p.Revs[0].Seal[0] ^= 1 }, func(p *Package) { p.Revs[2].Seal[31] ^= 128 },
	} {
		l = append(l, with(pack("a", 1, 2, 3), change))
	}
	for i, a := range l {
		for j, b := range l {
			if Same(a, with(b, func(*Package) {})) != (i == j) {
				t.Errorf("Same(%v, %v): %v", a, b, i != j)
			}
		}
	}
	if !Same(Package{Revs: []Rev{}}, Package{}) {
		t.Error("no revisions aren't the same as nil")
	}
}

// P10.2: Of a nil change.
func TestOf(t *testing.T) {
	if s, e := Of(nil); s != nil || e != api.ErrState {
		t.Errorf("Of(nil): %v, %d", s, e)
	}
	b := opened(t, 20)
	b.asked(t, "a")
	if b.c.Count() != 0 {
		t.Error("Of, and what is asked, changes something")
	}
}

// none wants a store to have an error for all that is right, and nothing.
func none(t *testing.T, s *Store, want api.Errno) {
	t.Helper()
	if p, e := s.Package("a"); e != want || !reflect.DeepEqual(p, Package{}) {
		t.Errorf("Package: %v, %d; want %d", p, e, want)
	}
	errs(t, "Save", s.Save(pack("a", 1)), want)
	if n, e := s.Drop("a"); n != 0 || e != want {
		t.Errorf("Drop: %d, %d; want %d", n, e, want)
	}
	if l, e := s.Packages(); l != nil || e != want {
		t.Errorf("Packages: %v, %d; want %d", l, e, want)
	}
	errs(t, "Connect", s.Connect(net("a", "b")), want)
	errs(t, "Disconnect", s.Disconnect(net("a", "b")), want)
	for _, packages := range [][]string{nil, {"a"}, {"A", ""}} {
		if l, e := s.Conns(packages...); l != nil || e != want {
			t.Errorf("Conns: %v, %d; want %d", l, e, want)
		}
	}
}

// P10.4: a nil store is ErrState, and nothing, whatever is asked of it.
func TestNil(t *testing.T) {
	var s *Store
	none(t, s, api.ErrState)
	for _, bad := range noNames() {
		_, e := s.Package(bad)
		errs(t, "Package", e, api.ErrState)
		_, e = s.Drop("a", bad)
		errs(t, "Drop", e, api.ErrState)
		errs(t, "Save", s.Save(pack(bad)), api.ErrState)
		errs(t, "Connect", s.Connect(net(bad, "")), api.ErrState)
		errs(t, "Disconnect", s.Disconnect(net(bad, "")), api.ErrState)
	}
	_, e := s.Drop()
	errs(t, "Drop", e, api.ErrState)
}

// P1: no call panics, of stores and changes that nobody made, and of changes
// that are over; nothing is there.
func TestNobodys(t *testing.T) {
	b := opened(t, 20)
	b.save(t, pack("a", 1))
	b.connect(t, net("a", "b"))
	over := b.s
	errs(t, "Commit", b.c.Commit(), api.OK)
	unmade, e := Of(&tree.Change{})
	errs(t, "Of", e, api.OK)
	for _, s := range []*Store{{}, over, unmade} {
		none(t, s, api.ErrState)
	}
}

// P10.2, P10.4: what was saved last is there, with the bytes that the chapter
// tells, in a file of its own.
func TestSave(t *testing.T) {
	b := opened(t, 40)
	for _, p := range []Package{pack("tool", 1), pack("app", 1, 2, 3), full(long(1)), full("tool"), pack("tool", 5, 6), with(pack("app", 7), func(p *Package) { p.Publisher = "b" }), pack("sys.packages", 1)} {
		errs(t, "Save", b.save(t, p), api.OK)
		if q, e := b.s.Package(p.Name); e != api.OK || !Same(p, q) {
			t.Errorf("Package: %v, %d; want %v", q, e, p)
		}
		n, e := b.c.Get("db", "sys.packages", p.Name)
		if want := packageText(p); e != api.OK || string(n.Data) != want || n.Stat != (mode.Stat{Mode: 0o600}) {
			t.Errorf("%v, %q, %d; want %q", n.Stat, n.Data, e, want)
		}
		b.commit(t)
	}
	l, e := b.s.Packages()
	var got []string
	for _, p := range l {
		got = append(got, p.Name)
	}
	if want := []string{"app", long(1), "sys.packages", "tool"}; e != api.OK || !slices.Equal(got, want) {
		t.Errorf("Packages: %q, %d; want %q", got, e, want)
	}
	b.save(t, pack("tool", 8))
	b.drop(t, "app")
	b.begin(t) // neither is committed
	b.asked(t, "tool", "app")
}

// P10.2: the bytes of one package, sign by sign.
func TestSavedBytes(t *testing.T) {
	b := opened(t, 20)
	var s [32]byte
	copy(s[:], "0123456789abcdef(i1;)0123456789:")
	b.save(t, Package{"tool", "ann", 7, []Rev{{7, s, 0}, {9, s, 131072}}})
	n, _ := b.c.Get("db", "sys.packages", "tool")
	want := "(3:anni7;((i7;32:0123456789abcdef(i1;)0123456789:i0;)(i9;32:0123456789abcdef(i1;)0123456789:i131072;)))"
	if string(n.Data) != want {
		t.Errorf("%q; want %q", n.Data, want)
	}
	b.connect(t, net("tool", "app"))
	n, _ = b.c.Get("db", "sys.connections", "c9f4c665de69c312b")
	if want := "(4:tool1:p3:app1:s3:net)"; string(n.Data) != want {
		t.Errorf("%q; want %q", n.Data, want)
	}
	b.commit(t)
}

// P10.2: what Check refuses isn't saved, whether one of that name is there.
func TestSaveRefused(t *testing.T) {
	for _, there := range []bool{false, true} {
		b := opened(t, 20)
		if there {
			b.save(t, pack("a", 1))
		}
		for _, bad := range noNames() {
			errs(t, "Save", b.save(t, pack(bad, 1)), api.ErrPath)
		}
		errs(t, "Save", b.save(t, pack("a")), api.ErrLong)
		errs(t, "Save", b.save(t, pack("a", 1, 2, 3, 4)), api.ErrLong)
		errs(t, "Save", b.save(t, pack("a", 2, 1)), api.ErrArg)
		errs(t, "Save", b.save(t, with(pack("a", 1, 2), func(p *Package) { p.Active = 3 })), api.ErrNone)
		b.commit(t)
	}
}

// P10.2: Package of what is no name, of what isn't there, and of what is.
func TestPackage(t *testing.T) {
	b := opened(t, 20)
	for range 2 {
		for _, bad := range noNames() {
			b.asked(t, bad)
			if p, e := b.s.Package(bad); e != api.ErrPath || !reflect.DeepEqual(p, Package{}) {
				t.Errorf("Package(%q): %v, %d", bad, p, e)
			}
		}
		if p, e := b.s.Package("b"); e != api.ErrNone || !reflect.DeepEqual(p, Package{}) {
			t.Errorf("Package: %v, %d", p, e)
		}
		b.save(t, pack("a", 1))
	}
}

// P10.2: Drop of names that are there, that aren't, that are told twice, and of
// one that is no name among others.
func TestDrop(t *testing.T) {
	for _, c := range []struct {
		names []string
		want  int
		e     api.Errno
	}{
		{nil, 0, api.OK}, {[]string{"a"}, 1, api.OK}, {[]string{"none"}, 0, api.OK}, {[]string{"c", "none", "a"}, 2, api.OK}, {[]string{"a", "a"}, 1, api.OK},
		{[]string{"b", "a", "none", "b", "c", "a"}, 3, api.OK}, {[]string{"a", "A"}, 0, api.ErrPath}, {[]string{"", "a"}, 0, api.ErrPath}, {[]string{"a", long(1) + "n", "b"}, 0, api.ErrPath}, {[]string{"odd", "d"}, 1, api.OK},
	} {
		b := opened(t, 40)
		b.plant(t, dirs()...)
		b.plant(t, file(packagesAt+"/odd", "none"), dir(packagesAt+"/d"))
		for _, name := range []string{"a", "b", "c"} {
			b.save(t, pack(name, 1))
			b.connect(t, net(name, "a"))
		}
		n, e := b.drop(t, c.names...)
		errs(t, fmt.Sprintf("Drop(%q)", c.names), e, c.e)
		if n != c.want {
			t.Errorf("Drop(%q): %d; want %d", c.names, n, c.want)
		}
		if l := b.ends(t); len(l) != 3 {
			t.Errorf("Drop(%q): connections are dropped: %q", c.names, l)
		}
		b.commit(t)
		if c.e == api.OK {
			n, _ := b.drop(t, c.names...)
			if n != 0 {
				t.Errorf("Drop(%q) again: %d", c.names, n)
			}
			b.save(t, pack("a", 2))
		}
	}
}

// lists are bytes of values that a package's or a connection's value is not, or
// that are no value's at all.
func lists() []string {
	return []string{"", "x", "(", "i1", "i1;", "0:", "3:ann", "()", "(())", "(3:ann)", "(3:anni1;)", strings.Repeat("(", 9), "(3:anni1;()", strings.Repeat("x", 512)}
}

// wrongPackages are bytes under a name that are no right package's.
func wrongPackages() []string {
	s := text(string(make([]byte, 32)))
	r := "(i1;" + s + "i5;)"
	l := []string{
		"(" + r + ")", "(i1;i1;(" + r + "))", "(3:ann1:1(" + r + "))", "(3:anni1;i1;)", "(3:anni1;1:a)", "((3:ann)i1;(" + r + "))", "(3:ann(i1;)(" + r + "))",
		"(3:anni1;(" + r + ")i0;)", "(3:anni1;(" + r + ")())", "(i1;3:ann(" + r + "))", "(i0;3:anni1;(" + r + "))", "(3:anni1;(" + r + "))i0;", "((3:anni1;(" + r + ")))", "(3:anni1;" + r + ")",
		"(3:anni1;(i1;))", "(3:anni1;(()))", "(3:anni1;((i1;" + s + ")))", "(3:anni1;((i1;i5;)))", "(3:anni1;((i1;" + s + "i5;i0;)))", "(3:anni1;((1:1" + s + "i5;)))", "(3:anni1;((i1;i0;i5;)))", "(3:anni1;((i1;" + s + "1:5)))", "(3:anni1;((()" + s + "i5;)))", "(3:anni1;((i1;()i5;)))", "(3:anni1;((i1;" + s + "())))", "(3:anni1;((i1;i5;" + s + ")))", "(3:anni1;((" + r + ")))", "(3:anni1;(" + r + "i2;))", "(3:anni1;(" + r + "(i2;" + s + ")))", "(3:anni1;(" + r + "()))",
		"(3:anni1;())", "(3:anni2;(" + r + "))", "(3:anni0;(" + r + "))", "(3:Anni1;(" + r + "))", "(0:i1;(" + r + "))", "(" + text(long(1)+"n") + "i1;(" + r + "))", "(2:..i1;(" + r + "))", "(3:anni1;(" + r + r + "))",
	}
	for _, n := range []int{0, 1, 31, 33, 64} {
		l = append(l, "(3:anni1;((i1;"+text(strings.Repeat("s", n))+"i5;)))")
	}
	for _, p := range []Package{pack("a", 0), pack("a", -1), pack("a", 1000000), pack("a", 2, 1), pack("a", 1, 2, 3, 4), with(pack("a", 1), func(p *Package) { p.Revs[0].Size = -1 }), with(pack("a", 1), func(p *Package) { p.Revs[0].Size = 131073 })} {
		l = append(l, packageText(p))
	}
	return append(l, lists()...)
}

// P10.2: a value that is no right package's, among others that are: Package's
// error of it is Packages'; it can be saved over, and dropped.
func TestWrongPackages(t *testing.T) {
	for _, data := range wrongPackages() {
		b := opened(t, 20)
		b.plant(t, dirs()...)
		b.save(t, pack("a", 1))
		b.save(t, pack("z", 1))
		b.plant(t, file(packagesAt+"/m", data))
		for range 2 { // not committed, and committed
			if p, e := b.s.Package("m"); e != api.ErrForm || !reflect.DeepEqual(p, Package{}) {
				t.Errorf("%q: Package: %v, %d", data, p, e)
			}
			if l, e := b.s.Packages(); e != api.ErrForm || l != nil {
				t.Errorf("%q: Packages: %v, %d", data, l, e)
			}
			b.commit(t)
		}
		errs(t, "Save", b.save(t, pack("m", 2)), api.OK)
		b.plant(t, file(packagesAt+"/m", data))
		if n, e := b.drop(t, "m"); n != 1 || e != api.OK {
			t.Errorf("%q: Drop: %d, %d", data, n, e)
		}
		b.commit(t)
	}
}

// P10.2: the same bytes under two names are two packages, each of the name that
// it stands under.
func TestUnderAnotherName(t *testing.T) {
	b := opened(t, 20)
	p := pack("a", 1, 2)
	b.plant(t, dirs()...)
	b.plant(t, file(packagesAt+"/a", packageText(p)), file(packagesAt+"/b", packageText(p)))
	for _, name := range []string{"a", "b"} {
		q, e := b.s.Package(name)
		if p.Name = name; e != api.OK || !Same(p, q) {
			t.Errorf("Package(%q): %v, %d", name, q, e)
		}
	}
	b.asked(t)
	b.commit(t)
}

// wrongConns are bytes that are no right connection's under the key of a and b.
func wrongConns() []string {
	l := []string{
		"(1:a1:p1:b1:s)", "(1:a1:p1:b1:s3:net0:)", "(1:a1:p1:b1:s3:neti1;)", "(i1;1:p1:b1:s3:net)", "(1:ai1;1:b1:s3:net)", "(1:a1:pi1;1:s3:net)", "(1:a1:p1:bi1;3:net)", "(1:a1:p1:b1:si1;)",
		"(()1:p1:b1:s3:net)", "(1:a()1:b1:s3:net)", "(1:a1:p()1:s3:net)", "(1:a1:p1:b()3:net)", "(1:a1:p1:b1:s())", "((1:a1:p)(1:b1:s)3:net)", "((1:a1:p1:b1:s3:net))", "(1:a1:p1:b1:s3:net)i1;", "1:a1:p1:b1:s3:net",
	}
	for i := range 5 {
		for _, bad := range append(noNames(), "x") {
			c := net("a", "b")
			*places(&c)[i] = bad
			if i < 4 || bad != "x" {
				l = append(l, connText(c))
			}
		}
	}
	return append(l, lists()...)
}

// P10.3: a value that is no right connection's, or another key's, among others
// that are: it isn't told, but its key is there.
func TestWrongConns(t *testing.T) {
	c := net("a", "b")
	for _, data := range wrongConns() {
		b := opened(t, 20)
		b.plant(t, dirs()...)
		others := []Conn{net("a", "a"), net("b", "a"), net("a", "c"), net("b", "b")}
		for _, x := range others {
			b.connect(t, x)
		}
		b.plant(t, file(connsAt+"/"+keyOf(c), data))
		for range 2 { // not committed, and committed
			for _, packages := range [][]string{nil, {"a", "b"}} {
				if l := b.ends(t, packages...); len(l) != len(others) || slices.Contains(l, c) {
					t.Errorf("%q: Conns: %q", data, l)
				}
			}
			errs(t, fmt.Sprintf("%q: Connect", data), b.connect(t, c), api.ErrTwice)
			b.commit(t)
		}
		errs(t, fmt.Sprintf("%q: Disconnect", data), b.disconnect(t, c), api.OK)
		errs(t, fmt.Sprintf("%q: Connect", data), b.connect(t, c), api.OK)
		b.commit(t)
	}
}

// P10.3: a right connection's value under other keys.
func TestUnderAnotherKey(t *testing.T) {
	b := opened(t, 40)
	b.plant(t, dirs()...)
	c := net("a", "b")
	for _, key := range []string{"a", keyOf(c)[1:], keyOf(c)[:16], keyOf(c) + "0", keyOf(net("b", "a")), keyOf(c)[:16] + "_", "d" + keyOf(c)[1:]} {
		b.plant(t, file(connsAt+"/"+key, connText(c)))
	}
	if l := b.ends(t); len(l) != 0 {
		t.Errorf("Conns: %q", l)
	}
	errs(t, "Connect", b.connect(t, net("b", "a")), api.ErrTwice)
	errs(t, "Connect", b.connect(t, c), api.OK)
	if l := b.ends(t, "b"); len(l) != 1 || l[0] != c {
		t.Errorf("Conns: %q", l)
	}
	b.commit(t)
}

// P10.3: no two connections that differ in one of the four texts are one; where
// the interface alone differs they are.
func TestConnect(t *testing.T) {
	b := opened(t, 60)
	c := net("a", "b")
	for range 2 {
		errs(t, "Disconnect", b.disconnect(t, c), api.ErrNone)
		errs(t, "Connect", b.connect(t, c), api.OK)
		errs(t, "Connect again", b.connect(t, c), api.ErrTwice)
		other := c
		other.Interface = "disk"
		errs(t, "Connect of another interface", b.connect(t, other), api.ErrTwice)
		if l := b.ends(t); len(l) != 1 || l[0] != c {
			t.Errorf("Conns: %q", l)
		}
		b.commit(t)
		errs(t, "Connect, committed", b.connect(t, c), api.ErrTwice)
		errs(t, "Disconnect of another interface", b.disconnect(t, other), api.OK)
	}
	l := append(alikes()[:4], c, net("b", "a"))
	for i := range 4 {
		c := net("a", "b")
		*places(&c)[i] = "x"
		l = append(l, c)
	}
	for _, c := range l {
		errs(t, "Connect", b.connect(t, c), api.OK)
	}
	b.commit(t)
	for i, c := range l {
		if n := len(b.ends(t)); n != len(l)-i {
			t.Errorf("%d are there; want %d", n, len(l)-i)
		}
		errs(t, "Disconnect", b.disconnect(t, c), api.OK)
		errs(t, "Disconnect again", b.disconnect(t, c), api.ErrNone)
	}
	b.commit(t)
}

// P10.3: what isn't right is ErrPath, ahead of all else.
func TestConnectWrong(t *testing.T) {
	for _, l := range [][]plant{nil, {file("db", "")}, {dir("db"), file(connsAt, "")}, dirs()} {
		b := opened(t, 20)
		b.plant(t, l...)
		for i := range 5 {
			for _, bad := range noNames() {
				c := net("a", "b")
				*places(&c)[i] = bad
				errs(t, "Connect", b.connect(t, c), api.ErrPath)
				errs(t, "Disconnect", b.disconnect(t, c), api.ErrPath)
			}
		}
		b.commit(t)
	}
}

// P10.3: connections of no package, of one, of several, of one told twice, of one
// at both ends, and of texts that are no names.
func TestConns(t *testing.T) {
	b := opened(t, 40)
	ab, ba, aa, bc, d := net("a", "b"), net("b", "a"), net("a", "a"), net("b", "c"), Conn{[2]string{"d", "a"}, [2]string{"e", "b"}, "c"}
	for _, c := range []Conn{ab, ba, aa, bc, d} {
		b.connect(t, c)
	}
	for _, c := range []struct {
		packages []string
		want     []Conn
	}{
		{nil, []Conn{ab, ba, aa, bc, d}}, {[]string{"a"}, []Conn{ab, ba, aa}}, {[]string{"b"}, []Conn{ab, ba, bc}}, {[]string{"c"}, []Conn{bc}}, {[]string{"d"}, []Conn{d}}, {[]string{"e"}, []Conn{d}},
		{[]string{"a", "a"}, []Conn{ab, ba, aa}}, {[]string{"c", "a"}, []Conn{ab, ba, aa, bc}}, {[]string{"e", "c", "none", "e"}, []Conn{bc, d}}, {[]string{"none"}, nil}, {[]string{"p"}, nil}, {[]string{"s", "net"}, nil},
		{[]string{""}, nil}, {[]string{"A", "..", ""}, nil}, {[]string{"", "c"}, []Conn{bc}}, {[]string{"a", "b", "c", "d", "e"}, []Conn{ab, ba, aa, bc, d}},
	} {
		slices.SortFunc(c.want, func(x, y Conn) int { return strings.Compare(keyOf(x), keyOf(y)) })
		if got := b.ends(t, c.packages...); !slices.Equal(got, c.want) {
			t.Errorf("Conns(%q): %q; want %q", c.packages, got, c.want)
		}
	}
	b.commit(t)
}

// P10.2, P10.3: something else stands where a record, a table or /db should.
func TestInTheWay(t *testing.T) {
	key := connsAt + "/" + keyOf(net("a", "b"))
	p := packageText(pack("a", 1))
	for _, c := range []struct {
		what                                        string
		l                                           []plant
		get, save, all, connect, disconnect, listed api.Errno
	}{
		{"nothing", nil, api.ErrNone, api.OK, api.OK, api.OK, api.ErrNone, api.OK},
		{"directories at the keys", append(dirs(), dir(packagesAt+"/a"), dir(key)), api.ErrForm, api.ErrType, api.OK, api.ErrType, api.ErrNone, api.OK},
		{"links at the keys", append(dirs(), file("f", p), link(packagesAt+"/a", "/f"), link(key, "/f")), api.ErrForm, api.ErrType, api.OK, api.ErrType, api.ErrNone, api.OK},
		{"files at the tables", []plant{dir("db"), file(packagesAt, p), file(connsAt, p)}, api.ErrNone, api.ErrType, api.ErrType, api.ErrType, api.ErrNone, api.ErrType},
		{"links at the tables", []plant{dir("e"), file("e/a", p), dir("db"), link(packagesAt, "/e"), link(connsAt, "/e")}, api.ErrNone, api.ErrType, api.ErrType, api.ErrType, api.ErrNone, api.ErrType},
		{"a file at the packages", []plant{dir("db"), file(packagesAt, p)}, api.ErrNone, api.ErrType, api.ErrType, api.OK, api.ErrNone, api.OK},
		{"a file at the connections", []plant{dir("db"), file(connsAt, p)}, api.ErrNone, api.OK, api.OK, api.ErrType, api.ErrNone, api.ErrType},
		{"a file at /db", []plant{file("db", p)}, api.ErrNone, api.ErrType, api.OK, api.ErrType, api.ErrNone, api.OK},
		{"a link at /db", []plant{dir("e"), dir("e/sys.packages"), file("e/sys.packages/a", p), link("db", "e")}, api.ErrNone, api.ErrType, api.OK, api.ErrType, api.ErrNone, api.OK},
	} {
		for _, committed := range []bool{false, true} {
			b := opened(t, 20)
			b.plant(t, c.l...)
			if committed {
				b.commit(t)
			}
			_, e := b.s.Package("a")
			errs(t, c.what+": Package", e, c.get)
			l, e := b.s.Packages()
			errs(t, c.what+": Packages", e, c.all)
			conns, e := b.s.Conns()
			errs(t, c.what+": Conns", e, c.listed)
			if len(l) > 0 || len(conns) > 0 {
				t.Errorf("%s: %v, %v", c.what, l, conns)
			}
			n, e := b.drop(t, "a")
			errs(t, c.what+": Drop", e, api.OK)
			if n > 0 {
				t.Errorf("%s: Drop: %d", c.what, n)
			}
			errs(t, c.what+": Disconnect", b.disconnect(t, net("a", "b")), c.disconnect)
			errs(t, c.what+": Save", b.save(t, pack("a", 1)), c.save)
			errs(t, c.what+": Save", b.save(t, pack("a")), api.ErrLong)
			errs(t, c.what+": Connect", b.connect(t, net("a", "b")), c.connect)
			b.commit(t)
		}
	}
}

// P10.2, P10.3: no node is free, or too few.
func TestNoNode(t *testing.T) {
	for free := range 5 {
		for _, packages := range []bool{false, true} {
			b := opened(t, 10)
			for i := 1; i < 10-free; i++ {
				b.plant(t, file(fmt.Sprint("f", i), ""))
			}
			want := api.OK
			if free < 3 {
				want = api.ErrFull
			}
			call := func() api.Errno { return b.connect(t, net("a", "b")) }
			if packages {
				call = func() api.Errno { return b.save(t, pack("a", 1)) }
			}
			errs(t, fmt.Sprint(free, " are free"), call(), want)
			b.commit(t)
			if want == api.OK && packages {
				errs(t, "one that is there", b.save(t, full("a")), api.OK)
				want := []api.Errno{api.ErrFull, api.OK}[free-3]
				errs(t, "one more", b.save(t, pack("b", 1)), want)
			}
			b.commit(t)
		}
	}
}

// P10.2, P10.3: a directory without room for one name more.
func TestFullDirectory(t *testing.T) {
	b := opened(t, 80)
	saved := 0
	for b.save(t, pack(long(saved), 1)) == api.OK {
		saved++
	}
	connected := 0
	for b.connect(t, net("a", long(connected))) == api.OK {
		connected++
	}
	b.commit(t)
	if l, e := b.s.Packages(); e != api.OK || len(l) != saved || saved < 10 {
		t.Errorf("%d of %d, %d", len(l), saved, e)
	}
	if l, e := b.s.Conns("a"); e != api.OK || len(l) != connected || connected < 10 {
		t.Errorf("%d of %d, %d", len(l), connected, e)
	}
	for range 2 {
		errs(t, "Save", b.save(t, pack(long(saved), 1)), api.ErrFull)
		errs(t, "Save of one that is there", b.save(t, full(long(3))), api.OK)
		errs(t, "Connect", b.connect(t, net("a", long(connected))), api.ErrFull)
		errs(t, "Connect of one that is there", b.connect(t, net("a", long(3))), api.ErrTwice)
		b.drop(t, long(4))
		errs(t, "Save", b.save(t, pack(long(saved), 1)), api.OK)
		errs(t, "Disconnect", b.disconnect(t, net("a", long(4))), api.OK)
		errs(t, "Connect", b.connect(t, net("a", long(connected))), api.OK)
		b.commit(t)
		b.drop(t, long(saved))
		b.save(t, pack(long(4), 1))
		b.disconnect(t, net("a", long(connected)))
		b.connect(t, net("a", long(4)))
	}
}

// P10.4: what tables, and what else there is, stays as it is.
func TestBeside(t *testing.T) {
	b := opened(t, 40)
	b.plant(t, dirs()...)
	b.plant(t, dir("db/ann"), file("db/ann/a", "i1;"), file("f", "f"), file(packagesAt+"x", "x"))
	b.save(t, pack("a", 1))
	b.connect(t, net("a", "b"))
	one, other := b.s, b.s
	b.begin(t)
	if _, e := one.Package("a"); e != api.OK {
		t.Errorf("the other change: %d", e)
	}
	if _, e := b.s.Package("a"); e != api.ErrNone {
		t.Errorf("another change: %d", e)
	}
	errs(t, "Save", other.Save(pack("c", 1)), api.OK)
	if l, e := one.Packages(); e != api.OK || len(l) != 2 {
		t.Errorf("Packages: %v, %d", l, e)
	}
}

// P10.2, P10.3: what a store tells is what the tree has when it is asked.
func TestTreeBeside(t *testing.T) {
	b := opened(t, 20)
	b.save(t, pack("a", 1))
	b.connect(t, net("a", "b"))
	for _, c := range []*tree.Change{b.c, b.o} {
		errs(t, "Put", c.Put([]byte(packageText(pack("a", 7))), append(at(packagesAt), "a")...), api.OK)
		errs(t, "Put", c.Put([]byte(connText(Conn{[2]string{"a", "p"}, [2]string{"b", "s"}, "disk"})), append(at(connsAt), keyOf(net("a", "b")))...), api.OK)
		errs(t, "Make", c.Make(inode.Node{Data: []byte(packageText(pack("", 3)))}, append(at(packagesAt), "b")...), api.OK)
	}
	b.asked(t, "a")
	if p, e := b.s.Package("a"); e != api.OK || p.Active != 7 {
		t.Errorf("Package: %v, %d", p, e)
	}
	if l := b.ends(t); len(l) != 1 || l[0].Interface != "disk" {
		t.Errorf("Conns: %q", l)
	}
}

// The codec has what the texts of these tests say.
func TestTexts(t *testing.T) {
	if v := value(t, connText(net("a", "b"))); v.Kind != codec.List || len(v.L) != 5 {
		t.Errorf("%v", v)
	}
	if v := value(t, packageText(full("a"))); v.Kind != codec.List || len(v.L) != 3 || len(v.L[2].L) != 3 {
		t.Errorf("%v", v)
	}
}
