package manifest

import (
	"fmt"
	"math"
	"slices"
	"strings"
	"testing"

	"creel/api"
)

// head is the text of a manifest without lists.
const head = "package a\npublisher b\nrevision 1\n"

// plain is that manifest.
func plain() Manifest { return Manifest{Package: "a", Publisher: "b", Revision: 1} }

// full is a manifest that has some of all.
func full() Manifest {
	return Manifest{
		"tool", "ann", 12,
		[]Item{{"n", "net"}, {"p", "net"}},
		[]Item{{"l", "log"}, {"s", "disk"}},
		[]Item{{"install", "/bin/h"}, {"refresh", "/bin/h"}, {"remove", "/h"}},
		[]Item{{"get", "ann.k"}, {"get", "x.a"}, {"read", "/"}, {"run", "/pkg/ann/bin"}, {"write", "/pkg/ann"}},
	}
}

// with is a manifest without lists, but for one of these items.
func with(no int, l ...Item) Manifest {
	m := plain()
	*listsOf(&m)[no] = l
	return m
}

// items are so many plugs, rising.
func items(many int) []Item {
	var l []Item
	for i := range many {
		l = append(l, Item{fmt.Sprintf("p%07d", i), "net"})
	}
	return l
}

// own is a manifest in memory of its own.
func own(m Manifest) Manifest {
	for _, l := range listsOf(&m) {
		*l = slices.Clone(*l)
	}
	return m
}

// P13.1, P13.2: whole texts, and what they are.
func TestTexts(t *testing.T) {
	long := strings.Repeat("n", 24)
	deep := strings.Repeat("/"+strings.Repeat("d", 19), 8)
	for _, c := range []struct {
		m    Manifest
		want string
	}{
		{plain(), "package a\npublisher b\nrevision 1\n"},
		{with(0, Item{"p", "net"}), "package a\npublisher b\nrevision 1\nplug p net\n"},
		{with(1, Item{"s", "net"}), "package a\npublisher b\nrevision 1\nslot s net\n"},
		{with(2, Item{"install", "/h"}), "package a\npublisher b\nrevision 1\nhook install /h\n"},
		{with(3, Item{"read", "/"}), "package a\npublisher b\nrevision 1\nwant read /\n"},
		{full(), "package tool\npublisher ann\nrevision 12\nplug n net\nplug p net\nslot l log\nslot s disk\nhook install /bin/h\nhook refresh /bin/h\nhook remove /h\n" +
			"want get ann.k\nwant get x.a\nwant read /\nwant run /pkg/ann/bin\nwant write /pkg/ann\n"},
		{Manifest{long, long, 999999, []Item{{long, long}}, []Item{{"...", "-"}}, []Item{{"revert", deep}}, []Item{{"put", long + "." + long}}},
			"package " + long + "\npublisher " + long + "\nrevision 999999\nplug " + long + " " + long + "\nslot ... -\nhook revert " + deep + "\nwant put " + long + "." + long + "\n"},
	} {
		if e := Check(c.m); e != api.OK {
			t.Errorf("Check of %q: %d", c.want, e)
		}
		if s, e := Text(c.m); s != c.want || e != api.OK {
			t.Errorf("Text: %q, %d; want %q", s, e, c.want)
		}
		parses(t, "a whole text", c.want, c.m, 0, api.OK)
		held(t, "a whole text", c.m)
	}
}

// Names, and what is none; of these the last ones have a sign in them that ends a
// word.
var (
	rightNames = []string{"a", "z", "0", "9", "-", "_", "...", ".a", "a.", "..a", "a..b", "x-1.y_2", strings.Repeat("n", 24)}
	wrongNames = []string{"", ".", "..", "A", "a/b", "/", "/a", "a/", "a\x00", "é", "\xff", "a\t", "a\r", "a:b", "a*", strings.Repeat("n", 25), strings.Repeat("n", 161), strings.Repeat("n", 1000)}
	cutNames   = []string{" ", "a b", " a", "a ", "\n", "a\n", "\na", "a\nb"}
)

// P13.1: names of packages and publishers, ahead of all else.
func TestNames(t *testing.T) {
	for _, name := range rightNames {
		wants(t, "a right name", Manifest{Package: name, Publisher: name, Revision: 1}, api.OK)
	}
	for _, name := range slices.Concat(wrongNames, cutNames) {
		for _, other := range []string{"a", "", "B"} {
			for _, m := range []Manifest{{Package: name, Publisher: other, Revision: 1}, {Package: other, Publisher: name, Revision: 1}, {Package: name, Publisher: other, Plugs: items(30)}} {
				wants(t, "a wrong name", m, api.ErrPath)
				heldText(t, "a wrong name", raw(m))
			}
		}
	}
	for _, name := range wrongNames {
		parses(t, "a wrong name", "package "+name+"\npublisher b\nrevision 0\n", Manifest{}, 0, api.ErrPath)
		parses(t, "a wrong name", "package a\npublisher "+name+"\nrevision 1\nplug p p\nplug p p\n", Manifest{}, 0, api.ErrPath)
	}
	for _, name := range cutNames[:4] {
		wrongAt(t, "a name of two words", "package "+name+"\npublisher b\nrevision 1\n", 1)
		wrongAt(t, "a name of two words", "package a\npublisher "+name+"\nrevision 1\n", 2)
	}
}

// P13.1: revisions, behind names and ahead of lists.
func TestRevisions(t *testing.T) {
	for n, want := range map[int]api.Errno{
		1: api.OK, 2: api.OK, 9: api.OK, 10: api.OK, 99999: api.OK, 100000: api.OK, 999998: api.OK, 999999: api.OK,
		0: api.ErrArg, -1: api.ErrArg, -999999: api.ErrArg, 1000000: api.ErrArg, 1000001: api.ErrArg, 1<<32 + 1: api.ErrArg, math.MinInt: api.ErrArg, math.MaxInt: api.ErrArg,
	} {
		m := plain()
		m.Revision = n
		wants(t, "a revision", m, want)
		m.Publisher = "B"
		wants(t, "a revision, and a wrong publisher", m, api.ErrPath)
		m.Publisher, m.Plugs = "b", items(21)
		if want == api.OK {
			want = api.ErrLong
		}
		wants(t, "a revision, and too many items", m, want)
	}
}

// P13.2: revisions' texts.
func TestRevisionTexts(t *testing.T) {
	for _, text := range []string{"1", "2", "10", "90", "101", "100000", "999999"} {
		m, _, _ := modelParse("package a\npublisher b\nrevision " + text + "\n")
		if raw(m) != "package a\npublisher b\nrevision "+text+"\n" {
			t.Errorf("the model reads %q as %d", text, m.Revision)
		}
		parses(t, "a revision", raw(m), m, 0, api.OK)
	}
	parses(t, "a revision", "package a\npublisher b\nrevision 0\n", Manifest{}, 0, api.ErrArg)
	for _, text := range []string{
		"", "00", "01", "001", "000000", "000001", "0000001", "1000000", "9999999", "0999999", "10000000000000000000", "18446744073709551617", strings.Repeat("9", 400),
		"x", "1x", "x1", "-", "-0", "-1", "-00001", "+1", "+0", "1.", "1.0", "1e3", "0x1", "0b1", "1_0", "_1", "1,000", "１", "1\t", "\t1", "1\r", "1\x00", " ", "1 ", " 1", "1 2", "NaN",
	} {
		for _, behind := range []string{"", "\n", "plug p net\n", "x"} {
			wrongAt(t, "a revision", "package a\npublisher b\nrevision "+text+"\n"+behind, 3)
			wrongAt(t, "a revision, and a wrong name", "package A\npublisher B\nrevision "+text+"\n"+behind, 3)
		}
	}
	for n := range 1001000 {
		if n > 1200 && n%997 > 0 && n < 999500 {
			continue
		}
		heldText(t, "a revision", fmt.Sprintf("package a\npublisher b\nrevision %d\n", n))
	}
}

// P13.1: how many items there are, ahead of what is wrong with them.
func TestCount(t *testing.T) {
	for many, want := range map[int]api.Errno{0: api.OK, 1: api.OK, 19: api.OK, 20: api.OK, 21: api.ErrLong, 22: api.ErrLong, 40: api.ErrLong, 1000: api.ErrLong} {
		for no := range 4 {
			m := plain()
			l := *listsOf(&m)[no]
			for i := range many {
				l = append(l, []Item{{fmt.Sprintf("n%03d", i), "x"}, {fmt.Sprintf("n%03d", i), "x"}, {"install", "/h"}, {"get", fmt.Sprintf("t.%03d", i)}}[no])
			}
			*listsOf(&m)[no] = l
			if no == 2 && want == api.OK && many > 1 {
				want = api.ErrTwice
			}
			wants(t, fmt.Sprint(many, " of list ", no), m, want)
			if want == api.ErrTwice {
				want = api.OK
			}
		}
	}
	if e := Check(Manifest{Package: "a", Publisher: "b", Revision: 1, Wants: make([]Item, 1<<20)}); e != api.ErrLong {
		t.Errorf("Check of very many: %d", e)
	}
}

// P13.1: all lists count together, whatever each has.
func TestCountTogether(t *testing.T) {
	for plugs := 0; plugs <= 21; plugs += 3 {
		for slots := 0; plugs+slots <= 21; slots += 3 {
			for hooks := range 5 {
				m := plain()
				m.Plugs = items(plugs)
				for i := range slots {
					m.Slots = append(m.Slots, Item{fmt.Sprintf("s%03d", i), "x"})
				}
				m.Hooks = []Item{{"install", "/h"}, {"refresh", "/h"}, {"remove", "/h"}, {"revert", "/h"}}[:hooks]
				for _, wanted := range []int{19, 20, 21} {
					m.Wants = nil
					for i := range wanted - plugs - slots - hooks {
						m.Wants = append(m.Wants, Item{"read", fmt.Sprintf("/%03d", i)})
					}
					want := api.OK
					if plugs+slots+hooks+len(m.Wants) > 20 {
						want = api.ErrLong
					}
					wants(t, "items together", m, want)
					heldText(t, "items together", raw(m))
				}
			}
		}
	}
	m := full()
	m.Hooks, m.Plugs = append(m.Hooks, Item{"x", "y"}), append(m.Plugs, items(8)...)
	wants(t, "too many, and wrong ones", m, api.ErrLong)
	m.Plugs = m.Plugs[:9]
	wants(t, "not too many, and wrong ones", m, api.ErrForm)
}

// right are items that a list may have.
func right(no int) []Item {
	var l []Item
	switch no {
	case 0, 1:
		for _, name := range rightNames {
			l = append(l, Item{name, "x"}, Item{"x", name}, Item{name, name})
		}
	case 2:
		for _, event := range []string{"install", "refresh", "revert", "remove"} {
			for _, text := range rightPaths() {
				l = append(l, Item{event, text})
			}
		}
	case 3:
		for _, op := range []string{"read", "write", "run"} {
			for _, text := range append(rightPaths(), "/") {
				l = append(l, Item{op, text})
			}
		}
		for _, op := range []string{"get", "put"} {
			for _, text := range rightKeys() {
				l = append(l, Item{op, text})
			}
		}
	}
	return l
}

// wrong are items that it mustn't have.
func wrong(no int) []Item {
	l := []Item{{}, {"", "/x"}, {"", "x"}, {"x", ""}, {" ", " "}}
	switch no {
	case 0, 1:
		for _, name := range slices.Concat(wrongNames, cutNames) {
			l = append(l, Item{name, "x"}, Item{"x", name}, Item{name, name})
		}
	case 2:
		for _, event := range []string{"", "Install", "instal", "installs", "install ", " install", "update", "read", "get", "x", "install\n", "revert\x00"} {
			l = append(l, Item{event, "/x"}, Item{event, "x"})
		}
		for _, event := range []string{"install", "refresh", "revert", "remove"} {
			for _, text := range append(wrongPaths(), "/") {
				l = append(l, Item{event, text})
			}
		}
	case 3:
		for _, op := range []string{"", "Read", "rea", "reads", "read ", " read", "burn", "install", "plug", "slot", "x", "read\n", "put\x00", "list"} {
			l = append(l, Item{op, "/x"}, Item{op, "x.a"}, Item{op, "x"})
		}
		for _, op := range []string{"read", "write", "run"} {
			for _, text := range append(wrongPaths(), rightKeys()...) {
				l = append(l, Item{op, text})
			}
		}
		for _, op := range []string{"get", "put"} {
			for _, text := range append(wrongKeys(), rightPaths()...) {
				l = append(l, Item{op, text})
			}
		}
	}
	return l
}

func rightPaths() []string {
	l := []string{"/a/b", "/x", "/1/2/3/4/5/6/7/8", strings.Repeat("/"+strings.Repeat("d", 19), 8)}
	for _, name := range rightNames {
		l = append(l, "/"+name, "/a/"+name, "/"+name+"/a")
	}
	return l
}

func wrongPaths() []string {
	l := []string{"a", "a/b", "//", "//a", "/a/", "/a//b", " /a", "/a ", "/a /b", "/*", "/a/*", "/1/2/3/4/5/6/7/8/9", strings.Repeat("/"+strings.Repeat("d", 19), 7) + "/" + strings.Repeat("d", 20), strings.Repeat("/"+strings.Repeat("d", 20), 8)}
	for _, name := range slices.Concat(wrongNames, cutNames) {
		if name != "" && !strings.Contains(name, "/") {
			l = append(l, "/"+name, "/a/"+name, "/"+name+"/a")
		}
	}
	return l
}

func rightKeys() []string {
	l := []string{"x.a", "x....", "x.a.b", "x..a", "x.a.", "-._", "0.0", "a-b.c_d"}
	for _, name := range rightNames {
		l = append(l, "x."+name)
		if !strings.Contains(name, ".") {
			l = append(l, name+".x")
		}
	}
	return l
}

func wrongKeys() []string {
	l := []string{"x", "x.", ".x", ".", "..", "...", "....", "x..", "x...", "..x", ".x.y", "x.*", "*.x", "x/y", "/x.y", "x./y", "x.y/z", "x y", "x .y", "x. y"}
	for _, name := range slices.Concat(wrongNames, cutNames) {
		l = append(l, "x."+name)
		if !strings.Contains(name, ".") {
			l = append(l, name+".x")
		}
	}
	return l
}

// P13.1: what an item of each list must be.
func TestItems(t *testing.T) {
	for no := range 4 {
		for _, x := range right(no) {
			wants(t, "a right item of list "+words[no], with(no, x), api.OK)
			held(t, "a right item", with(no, x))
		}
		for _, x := range wrong(no) {
			wants(t, "a wrong item of list "+words[no], with(no, x), api.ErrForm)
			held(t, "a wrong item", with(no, x))
			if !strings.ContainsAny(x.A+x.B, " \n") {
				parses(t, "a wrong item", head+words[no]+" "+x.A+" "+x.B+"\n", Manifest{}, 0, api.ErrForm)
			}
		}
	}
}

// P13.1: what is an item of one list isn't one of another, but for plugs and slots.
func TestItemsElsewhere(t *testing.T) {
	for of := range 4 {
		for in := range 4 {
			for _, x := range []Item{{"p", "net"}, {"install", "net"}, {"install", "/h"}, {"get", "x.a"}, {"read", "/x"}, {"read", "net"}} {
				held(t, "an item elsewhere", with(in, x))
				m := full()
				l := listsOf(&m)
				*l[of] = append(*l[of], (*l[in])...)
				held(t, "items elsewhere", m)
			}
		}
	}
	wants(t, "a key that is read", with(3, Item{"read", "x.a"}), api.ErrForm)
	wants(t, "a path that is got", with(3, Item{"get", "/x"}), api.ErrForm)
	wants(t, "the root, read", with(3, Item{"read", "/"}), api.OK)
	wants(t, "the root, run", with(3, Item{"run", "/"}), api.OK)
	wants(t, "the root, a hook", with(2, Item{"install", "/"}), api.ErrForm)
}

// P13.1: the items of a list rise, by the first word, and then by the second one.
func TestRising(t *testing.T) {
	for _, c := range []struct {
		no   int
		l    []Item
		want api.Errno
	}{
		{0, []Item{{"a", "z"}, {"b", "a"}}, api.OK},
		{0, []Item{{"b", "a"}, {"a", "z"}}, api.ErrTwice},
		{0, []Item{{"a", "x"}, {"a", "x"}}, api.ErrTwice},
		{0, []Item{{"a", "x"}, {"a", "y"}}, api.ErrTwice},
		{0, []Item{{"a", "x"}, {"aa", "x"}, {"b", "x"}}, api.OK},
		{0, []Item{{"-", "x"}, {".a", "x"}, {"0", "x"}, {"9", "x"}, {"_", "x"}, {"a", "x"}, {"z", "x"}}, api.OK},
		{0, []Item{{"a", "x"}, {"_", "x"}}, api.ErrTwice},
		{0, []Item{{"10", "x"}, {"9", "x"}}, api.OK},
		{0, []Item{{"9", "x"}, {"10", "x"}}, api.ErrTwice},
		{1, []Item{{"a", "z"}, {"b", "a"}}, api.OK},
		{1, []Item{{"b", "a"}, {"a", "z"}}, api.ErrTwice},
		{1, []Item{{"a", "x"}, {"b", "x"}, {"b", "x"}}, api.ErrTwice},
		{1, []Item{{"a", "x"}, {"a", "y"}}, api.ErrTwice},
		{2, []Item{{"install", "/z"}, {"refresh", "/y"}, {"remove", "/x"}, {"revert", "/w"}}, api.OK},
		{2, []Item{{"install", "/x"}, {"refresh", "/x"}, {"revert", "/x"}, {"remove", "/x"}}, api.ErrTwice},
		{2, []Item{{"install", "/x"}, {"install", "/y"}}, api.ErrTwice},
		{2, []Item{{"install", "/x"}, {"install", "/x"}}, api.ErrTwice},
		{3, []Item{{"get", "x.a"}, {"put", "x.a"}, {"read", "/x"}, {"run", "/x"}, {"write", "/x"}}, api.OK},
		{3, []Item{{"read", "/"}, {"read", "/a"}, {"read", "/a-"}, {"read", "/a/b"}, {"read", "/aa"}}, api.OK},
		{3, []Item{{"read", "/b"}, {"read", "/a"}}, api.ErrTwice},
		{3, []Item{{"read", "/a"}, {"read", "/a"}}, api.ErrTwice},
		{3, []Item{{"run", "/a"}, {"read", "/b"}}, api.ErrTwice},
		{3, []Item{{"read", "/a"}, {"run", "/a"}}, api.OK},
		{3, []Item{{"get", "x.a"}, {"get", "x.a."}, {"get", "x.aa"}, {"get", "xx.a"}}, api.OK},
		{3, []Item{{"get", "xx.a"}, {"get", "x.b"}}, api.ErrTwice},
	} {
		wants(t, "items, rising or not", with(c.no, c.l...), c.want)
		held(t, "items, rising or not", with(c.no, c.l...))
	}
	for no := range 4 {
		for _, x := range right(no) {
			for _, y := range right(no) {
				held(t, "two items", with(no, x, y))
			}
		}
	}
}

// P13.1: of plugs and slots together no two are of one name, and of hooks no two of
// one event; of wants may be many of one operation.
func TestOneName(t *testing.T) {
	for _, c := range []struct {
		what string
		m    Manifest
		want api.Errno
	}{
		{"a slot of a plug's name", Manifest{Plugs: []Item{{"p", "x"}}, Slots: []Item{{"p", "y"}}}, api.ErrTwice},
		{"and of its interface", Manifest{Plugs: []Item{{"p", "x"}}, Slots: []Item{{"p", "x"}}}, api.ErrTwice},
		{"the last slot of the first plug's name", Manifest{Plugs: []Item{{"p", "x"}, {"q", "x"}}, Slots: []Item{{"a", "x"}, {"p", "x"}}}, api.ErrTwice},
		{"a slot of an interface's name", Manifest{Plugs: []Item{{"p", "x"}}, Slots: []Item{{"x", "p"}}}, api.OK},
		{"names that are alike", Manifest{Plugs: []Item{{"p", "x"}}, Slots: []Item{{"p.", "x"}, {"pp", "x"}}}, api.OK},
		{"a plug of an event's name", Manifest{Plugs: []Item{{"install", "x"}}, Hooks: []Item{{"install", "/x"}}}, api.OK},
		{"a slot of an operation's name", Manifest{Slots: []Item{{"read", "x"}}, Wants: []Item{{"read", "/x"}}}, api.OK},
		{"three plugs, two of one name", Manifest{Plugs: []Item{{"o", "x"}, {"p", "x"}, {"p", "y"}}}, api.ErrTwice},
		{"three slots, two of one name", Manifest{Slots: []Item{{"o", "x"}, {"o", "y"}, {"p", "y"}}}, api.ErrTwice},
		{"three hooks, two of one event", Manifest{Hooks: []Item{{"install", "/x"}, {"remove", "/x"}, {"remove", "/y"}}}, api.ErrTwice},
		{"wants of one operation", Manifest{Wants: []Item{{"read", "/x"}, {"read", "/y"}, {"read", "/z"}}}, api.OK},
	} {
		c.m.Package, c.m.Publisher, c.m.Revision = "a", "b", 1
		wants(t, c.what, c.m, c.want)
		held(t, c.what, c.m)
	}
}

// P13.1: of items that are wrong the first tells; what is told of all of them comes
// behind.
func TestFirstWrong(t *testing.T) {
	bad, ok := Item{"A", "x"}, Item{"b", "x"}
	for _, c := range []struct {
		what string
		m    Manifest
		want api.Errno
	}{
		{"wrong, ahead of twice", Manifest{Plugs: []Item{bad, ok, ok}}, api.ErrForm},
		{"twice, ahead of wrong", Manifest{Plugs: []Item{ok, ok, bad}}, api.ErrTwice},
		{"both, of one item", Manifest{Plugs: []Item{ok, bad}}, api.ErrForm},
		{"both, of one item that was there", Manifest{Plugs: []Item{bad, bad}}, api.ErrForm},
		{"twice, in the list ahead", Manifest{Plugs: []Item{ok, ok}, Slots: []Item{bad}}, api.ErrTwice},
		{"wrong, in the list ahead", Manifest{Plugs: []Item{bad}, Slots: []Item{ok, ok}}, api.ErrForm},
		{"wrong, in the list behind", Manifest{Plugs: []Item{ok}, Slots: []Item{ok, bad}}, api.ErrForm},
		{"twice, slots ahead of hooks", Manifest{Slots: []Item{ok, ok}, Hooks: []Item{bad}}, api.ErrTwice},
		{"wrong, hooks ahead of wants", Manifest{Hooks: []Item{bad}, Wants: []Item{{"read", "/"}, {"read", "/"}}}, api.ErrForm},
		{"twice, hooks ahead of wants", Manifest{Hooks: []Item{{"remove", "/x"}, {"install", "/x"}}, Wants: []Item{bad}}, api.ErrTwice},
		{"one name, and a wrong want", Manifest{Plugs: []Item{ok}, Slots: []Item{ok}, Wants: []Item{bad}}, api.ErrForm},
		{"one name, and a wrong hook", Manifest{Plugs: []Item{{"b", "x"}, {"b", "y"}}, Hooks: []Item{bad}}, api.ErrForm},
		{"one event, and a wrong want", Manifest{Hooks: []Item{{"install", "/x"}, {"install", "/y"}}, Wants: []Item{bad}}, api.ErrForm},
	} {
		c.m.Package, c.m.Publisher, c.m.Revision = "a", "b", 1
		wants(t, c.what, c.m, c.want)
		held(t, c.what, c.m)
		c.m.Revision = 0
		wants(t, c.what+", and no revision", c.m, api.ErrArg)
		c.m.Package = ""
		wants(t, c.what+", and no name", c.m, api.ErrPath)
	}
}

// P13.3: of sorted lists alike items stand once, also where a manifest isn't right.
func TestTidy(t *testing.T) {
	for _, c := range []struct{ l, want []Item }{
		{nil, nil},
		{[]Item{}, nil},
		{[]Item{{"a", "x"}}, []Item{{"a", "x"}}},
		{[]Item{{"b", "x"}, {"a", "x"}}, []Item{{"a", "x"}, {"b", "x"}}},
		{[]Item{{"a", "y"}, {"a", "x"}}, []Item{{"a", "x"}, {"a", "y"}}},
		{[]Item{{"a", "x"}, {"a", "x"}}, []Item{{"a", "x"}}},
		{[]Item{{"b", "x"}, {"a", "x"}, {"b", "x"}, {"a", "x"}, {"b", "x"}}, []Item{{"a", "x"}, {"b", "x"}}},
		{[]Item{{"b", "a"}, {"a", "b"}, {"a", "a"}, {"b", "b"}, {"a", "b"}}, []Item{{"a", "a"}, {"a", "b"}, {"b", "a"}, {"b", "b"}}},
		{[]Item{{"a", "bc"}, {"ab", "c"}, {"", "abc"}, {"abc", ""}, {}}, []Item{{}, {"", "abc"}, {"a", "bc"}, {"ab", "c"}, {"abc", ""}}},
		{[]Item{{"\xff", "x"}, {"é", "x"}, {"z", "x"}, {"a", "x"}, {"B", "x"}, {"\x00", "x"}, {"~", "x"}}, []Item{{"\x00", "x"}, {"B", "x"}, {"a", "x"}, {"z", "x"}, {"~", "x"}, {"é", "x"}, {"\xff", "x"}}},
	} {
		for no := range 4 {
			m, want := full(), full()
			*listsOf(&m)[no], *listsOf(&want)[no] = c.l, c.want
			if got := Tidy(m); shown(got) != shown(want) {
				t.Errorf("Tidy(%s): %s; want %s", shown(m), shown(got), shown(want))
			}
			m.Package, m.Publisher, m.Revision = "", "/", -7
			want.Package, want.Publisher, want.Revision = "", "/", -7
			if got := Tidy(m); shown(got) != shown(want) {
				t.Errorf("Tidy(%s): %s; want %s", shown(m), shown(got), shown(want))
			}
		}
	}
	if m := Tidy(Manifest{}); !isZero(m) {
		t.Errorf("Tidy of nothing: %s", shown(m))
	}
	m := full()
	for _, l := range listsOf(&m) {
		*l = append(slices.Clone(*l), *l...)
		slices.Reverse(*l)
	}
	if got := Tidy(m); shown(got) != shown(full()) {
		t.Errorf("Tidy of all twice: %s", shown(got))
	}
	m.Plugs = nil
	for i := range 1 << 17 {
		m.Plugs = append(m.Plugs, Item{fmt.Sprint(i % 1000), fmt.Sprint(i % 3)})
	}
	if got := Tidy(m); len(got.Plugs) != 3000 || !slices.IsSortedFunc(got.Plugs, func(x, y Item) int { return strings.Compare(x.A+" "+x.B, y.A+" "+y.B) }) {
		t.Errorf("Tidy of very many: %d", len(got.Plugs))
	}
}

// P13.3: Same tells of each part.
func TestSame(t *testing.T) {
	all := []Manifest{{}, plain(), full(), {Package: "a"}, {Publisher: "a"}, {Revision: 1}, {Revision: -1}, {Package: "a", Publisher: "b"}, {Package: "b", Publisher: "a"}}
	for no := range 4 {
		m := full()
		l := *listsOf(&m)[no]
		all = append(all, with(no, Item{}), with(no, Item{"p", "x"}), with(no, Item{"x", "p"}), with(no, Item{"px", ""}), with(no, Item{"", "px"}), with(no, Item{"p", "x"}, Item{"p", "x"}), with(no, Item{"p", "x"}, Item{"q", "x"}), with(no, Item{"q", "x"}, Item{"p", "x"}))
		for _, other := range [][]Item{nil, l[1:], l[:len(l)-1], append(slices.Clone(l), Item{"z", "z"}), append([]Item{l[1], l[0]}, l[2:]...)} {
			m := full()
			*listsOf(&m)[no] = other
			all = append(all, m)
		}
	}
	for _, change := range []func(m *Manifest){
		func(m *Manifest) { m.Package = "tools" }, func(m *Manifest) { m.Publisher = "an" }, func(m *Manifest) { m.Revision++ },
		func(m *Manifest) { m.Plugs, m.Slots = m.Slots, m.Plugs }, func(m *Manifest) { m.Hooks, m.Wants = m.Wants, m.Hooks }, func(m *Manifest) { m.Package, m.Publisher = m.Publisher, m.Package },
		func(m *Manifest) { m.Plugs[1].A = "P" }, func(m *Manifest) { m.Slots[0].B = "Log" }, func(m *Manifest) { m.Hooks[2].B = "/H" }, func(m *Manifest) { m.Wants[4].A = "Write" },
	} {
		m := own(full())
		change(&m)
		all = append(all, m)
	}
	for i, a := range all {
		for j, b := range all {
			if got, want := Same(a, own(b)), shown(a) == shown(b); got != want || i == j && !got {
				t.Errorf("Same(%s, %s): %t", shown(a), shown(b), got)
			}
		}
	}
	empty := Manifest{Plugs: []Item{}, Slots: make([]Item, 0, 5), Hooks: []Item{}, Wants: []Item{}}
	if !Same(empty, Manifest{}) || !Same(Manifest{}, empty) || !Same(empty, empty) {
		t.Error("Same of empty lists isn't so")
	}
}

// P13.3: the first item of a first word.
func TestFind(t *testing.T) {
	l := []Item{{"b", "x"}, {"a", "y"}, {"b", "z"}, {"", "e"}, {"\x00", ""}, {"é", "u"}, {"c", ""}}
	for _, c := range []struct {
		l     []Item
		first string
		want  Item
		e     api.Errno
	}{
		{l, "a", Item{"a", "y"}, api.OK}, {l, "b", Item{"b", "x"}, api.OK}, {l[1:], "b", Item{"b", "z"}, api.OK}, {l, "", Item{"", "e"}, api.OK},
		{l, "\x00", Item{"\x00", ""}, api.OK}, {l, "é", Item{"é", "u"}, api.OK}, {l, "c", Item{"c", ""}, api.OK},
		{l, "x", Item{}, api.ErrNone}, {l, "A", Item{}, api.ErrNone}, {l, "bb", Item{}, api.ErrNone}, {l, " b", Item{}, api.ErrNone}, {l, "e", Item{}, api.ErrNone},
		{l[:3], "", Item{}, api.ErrNone}, {nil, "", Item{}, api.ErrNone}, {nil, "a", Item{}, api.ErrNone}, {[]Item{}, "a", Item{}, api.ErrNone}, {[]Item{{}}, "", Item{}, api.OK},
	} {
		if x, e := Find(c.l, c.first); x != c.want || e != c.e {
			t.Errorf("Find(%q, %q): %q, %d; want %q, %d", c.l, c.first, x, e, c.want, c.e)
		}
	}
	m := full()
	for _, list := range listsOf(&m) {
		for i, x := range *list {
			first := slices.IndexFunc(*list, func(y Item) bool { return x.A == y.A })
			if got, e := Find(*list, x.A); got != (*list)[first] || e != api.OK {
				t.Errorf("Find of item %d, %q: %q, %d", i, x, got, e)
			}
		}
	}
}

// P13.3: plugs' and slots' interfaces, rising, each once, also where a manifest isn't
// right.
func TestInterfaces(t *testing.T) {
	for _, c := range []struct {
		plugs, slots []Item
		want         []string
	}{
		{nil, nil, nil},
		{[]Item{{"p", "net"}}, nil, []string{"net"}},
		{nil, []Item{{"s", "net"}}, []string{"net"}},
		{[]Item{{"p", "net"}}, []Item{{"s", "net"}}, []string{"net"}},
		{[]Item{{"p", "net"}}, []Item{{"s", "disk"}}, []string{"disk", "net"}},
		{[]Item{{"p", "c"}, {"q", "a"}, {"r", "c"}, {"s", "b"}}, []Item{{"t", "d"}, {"u", "b"}, {"v", "a"}, {"w", "d"}}, []string{"a", "b", "c", "d"}},
		{[]Item{{"z", "\xff"}, {"y", ""}, {"x", "é"}}, []Item{{"", ""}, {"a", "B"}, {"a", "\x00"}}, []string{"", "\x00", "B", "é", "\xff"}},
		{[]Item{{"p", "10"}, {"p", "9"}}, []Item{{"p", "1"}}, []string{"1", "10", "9"}},
	} {
		for _, m := range []Manifest{{}, full()} {
			m.Plugs, m.Slots = c.plugs, c.slots
			if got := Interfaces(m); !slices.Equal(got, c.want) {
				t.Errorf("Interfaces of %q, %q: %q; want %q", c.plugs, c.slots, got, c.want)
			}
		}
	}
}
