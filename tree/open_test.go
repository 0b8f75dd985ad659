package tree

import (
	"bytes"
	"fmt"
	"maps"
	"slices"
	"strings"
	"testing"

	"creel/api"
	"creel/inode"
	"creel/mode"
)

// raw is a table with these nodes.
func raw(t *testing.T, nodes map[int]inode.Node) *inode.Table {
	t.Helper()
	_, _, x := newTable(t, 200, 40, 60)
	var l []inode.Change
	for no, n := range nodes {
		l = append(l, inode.Change{No: no, Node: n})
	}
	errs(t, "Apply", x.Apply(l...), api.OK)
	return x
}

// nodes are all that a table has.
func nodes(x *inode.Table) map[int]inode.Node {
	l := map[int]inode.Node{}
	for _, no := range x.Used() {
		l[no], _ = x.Get(no)
	}
	return l
}

// rawDir is a directory with these bytes.
func rawDir(s string) inode.Node {
	n := dir()
	n.Data = []byte(s)
	return n
}

// P8.1, P1: without a table there is no tree; one without nodes hasn't room for
// a root.
func TestOpenNil(t *testing.T) {
	if f, e := Open(nil); f != nil || e != api.ErrState {
		t.Fatalf("Open(nil): %v, %d", f, e)
	}
	if f, e := Open(&inode.Table{}); f != nil || e != api.ErrArg {
		t.Fatalf("Open of a table in no log: %v, %d", f, e)
	}
}

// P8.1: a root that isn't there is made, once.
func TestOpenMakesRoot(t *testing.T) {
	d, l, x := newTable(t, 8, 3, 4)
	done := l.Done()
	f, e := Open(x)
	errs(t, "Open", e, api.OK)
	root := inode.Node{Stat: mode.Stat{Kind: 1, Mode: 493}, Data: []byte("()")}
	if n, e := x.Get(0); e != api.OK || !inode.Same(n, root) || !slices.Equal(x.Used(), []int{0}) || l.Done() != done+1 {
		t.Fatalf("the root is %v, %d, of %v", n, e, x.Used())
	}
	c := f.Begin()
	tells(t, "new", c, newModel(3))
	walks(t, "new", f, newModel(3))
	if n, e := c.Get(); e != api.OK || n.Data != nil || c.Count() != 0 {
		t.Fatalf("Get(): %v, %d; %d changed", n, e, c.Count())
	}
	laid, writes := d.Laid(), d.Writes()
	if f, e := Open(x); f == nil || e != api.OK || !bytes.Equal(d.Laid(), laid) || d.Writes() != writes {
		t.Fatalf("Open again: %v, %d", f, e)
	}
}

// P8.1: what keeps a root from being made; without power a tree that has one is
// opened.
func TestOpenRootRefused(t *testing.T) {
	_, _, x := newTable(t, 8, 3, 1)
	errs(t, "Apply", x.Apply(inode.Change{No: 2, Node: file("x")}), api.OK)
	if f, e := Open(x); f != nil || e != api.ErrFull || !slices.Equal(x.Used(), []int{2}) {
		t.Fatalf("Open without a block: %v, %d", f, e)
	}
	_, _, x = newTable(t, 2, 3, 4)
	if f, e := Open(x); f != nil || e != api.ErrFull || x.Used() != nil {
		t.Fatalf("Open in a log that takes one write: %v, %d", f, e)
	}
	d, _, x := newTable(t, 8, 3, 4)
	d.Crash()
	if f, e := Open(x); f != nil || e != api.ErrDown || x.Used() != nil {
		t.Fatalf("Open without power: %v, %d", f, e)
	}
	d.Power()
	errs(t, "Apply", x.Apply(inode.Change{No: 2, Node: file("")}), api.OK)
	d.Crash()
	if f, e := Open(x); f != nil || e != api.ErrDown {
		t.Fatalf("Open without power, of no tree: %v, %d", f, e)
	}
	d.Power()
	if f, e := Open(x); f != nil || e != api.ErrForm {
		t.Fatalf("Open without a root, a node elsewhere: %v, %d", f, e)
	}
	b := planted(t, 60, 4, 8)
	b.d.Crash()
	f, e := Open(b.x)
	errs(t, "Open without power, with a root", e, api.OK)
	walks(t, "without power", f, b.m)
}

// P8.1: whose root isn't a directory is no tree, whatever it has.
func TestOpenRootsKind(t *testing.T) {
	for kind := mode.File; kind <= mode.Pipe; kind++ {
		for _, s := range []string{"()", ""} {
			stat := mode.Stat{Kind: kind, Mode: 0o4321, Owner: 65535, Group: 7}
			f, e := Open(raw(t, map[int]inode.Node{0: {Stat: stat, Data: []byte(s)}}))
			right := kind == mode.Dir && s == "()"
			if right != (e == api.OK) || !right && (f != nil || e != api.ErrForm) {
				t.Fatalf("a root of kind %d with %q: %v, %d", kind, s, f, e)
			}
			if right {
				if n, e := f.Begin().Get(); e != api.OK || n.Stat != stat || n.Data != nil {
					t.Fatalf("the root is %v, %d", n, e)
				}
			}
		}
	}
}

// strange are bytes that aren't a directory's, whichever of nodes 7 and 8 are
// files.
func strange() []string {
	return []string{
		"", "(", ")", "()()", "() ", " ()", "()\x00", "\x00", "i1;", "i0;", "i7;", "0:", "1:a", "2:()", "x",
		"(())", "(i7;)", "(1:a)", "(1:ai7;)", "((1:a))", "((i7;))", "((1:ai7;()))", "((1:ai7;i7;))", "((1:ai7;1:b))", "((1:ai7;1:bi8;))",
		"((i7;1:a))", "((1:a1:7))", "((1:a0:))", "((i1;i7;))", "((i0;i7;))", "((()i7;))", "((1:a()))", "(((1:a)i7;))", "((1:a(i7;)))", "(((1:ai7;)))",
		"((1:ai7;)i7;)", "((1:ai7;)1:b)", "((1:ai7;)())", "(()(1:ai7;))", "((1:ai7;)(1:b))",
		"((0:i7;))", "((1:.i7;))", "((2:..i7;))", "((1:Ai7;))", "((1:/i7;))", "((3:a/bi7;))", "((1: i7;))", "((1:\x00i7;))", "((2:\xc3\xa9i7;))",
		"((25:" + strings.Repeat("a", 25) + "i7;))", "((1:.i7;)(1:ai8;))", "((1:ai7;)(2:b i8;))",
		"((1:ai07;))", "((01:ai7;))", "((1:ai7))", "((1:ai7;)", "(1:ai7;))", "((1:ai99999999999999999999;))",
		// Not rising, and twice.
		"((1:bi7;)(1:ai8;))", "((1:ai7;)(1:ai8;))", "((1:ai7;)(1:ai7;))", "((2:aai7;)(1:ai8;))", "((1:ai7;)(1:_i8;))", "((1:ai7;)(1:0i8;))",
		"((1:0i7;)(2:.xi8;))", "((2:.xi7;)(1:-i8;))", "((2:a0i7;)(2:a-i8;))",
		// Nodes that are free, the root, or stand somewhere already.
		"((1:ai9;))", "((1:ai7;)(1:bi9;))", "((1:ai40;))", "((1:ai400;))", "((1:ai-1;))", "((1:ai-7;))", "((1:ai9223372036854775807;))",
		"((1:ai-9223372036854775808;))", "((1:ai4294967303;))", "((1:ai0;))", "((1:ai7;)(1:bi0;)(1:ci8;))", "((1:ai7;)(1:bi7;))",
		"((1:ai7;)(1:bi8;)(1:ci7;))",
	}
}

// P8.1: directories' bytes that aren't right, the root's and another's,
// whatever else there is; and the same ones where nothing is wrong with them.
func TestOpenStrangeDirectories(t *testing.T) {
	opens := func(s string, others int, want api.Errno) {
		t.Helper()
		for _, l := range []map[int]inode.Node{{0: rawDir(s)}, {0: rawDir("((1:di3;))"), 3: rawDir(s)}} {
			for i := range 2 {
				if others>>i&1 == 1 {
					l[7+i] = file("()")
				}
			}
			x := raw(t, l)
			what := fmt.Sprintf("a directory of %q, files %b", s, others)
			if want == api.ErrForm {
				refusesToOpen(t, what, x)
				continue
			}
			_, e := Open(x)
			errs(t, what, e, want)
		}
	}
	for _, s := range strange() {
		for others := range 4 {
			opens(s, others, api.ErrForm)
		}
	}
	for others, l := range [][]string{
		{"()"},
		{"((1:ai7;))", "((24:" + strings.Repeat("a", 24) + "i7;))"},
		{"((1:ai8;))"},
		{"((1:ai7;)(1:bi8;))", "((1:ai8;)(1:bi7;))", "((1:-i8;)(2:.xi7;))"},
	} {
		for _, s := range l {
			for files := range 4 {
				want := api.ErrForm // one that stands nowhere, or is free
				if files == others {
					want = api.OK
				}
				opens(s, files, want)
			}
		}
	}
}

// refusesToOpen wants a table to be no tree's, and to be left as it is.
func refusesToOpen(t *testing.T, what string, x *inode.Table) {
	t.Helper()
	ahead := nodes(x)
	if f, e := Open(x); f != nil || e != api.ErrForm {
		t.Fatalf("%s: %v, %d; want %d", what, f, e, api.ErrForm)
	}
	if !maps.EqualFunc(nodes(x), ahead, inode.Same) {
		t.Fatalf("%s: the table isn't as it was", what)
	}
}

// chained are directories a, each within the one ahead, so many, and something
// within the last one, or nothing.
func chained(deep int, last ...inode.Node) map[int]inode.Node {
	l := map[int]inode.Node{}
	for no := range deep + 1 {
		l[no] = rawDir(fmt.Sprintf("((1:ai%d;))", no+1))
	}
	l[deep] = rawDir("()")
	for _, n := range last {
		l[deep] = rawDir(fmt.Sprintf("((1:bi%d;))", deep+1))
		l[deep+1] = n
	}
	return l
}

// P8.1: tables with right directories that aren't a tree's all the same.
func TestOpenStrangeTrees(t *testing.T) {
	stat := func(kind int) inode.Node { return inode.Node{Stat: mode.Stat{Kind: kind, Mode: 0o600}} }
	for what, l := range map[string]map[int]inode.Node{
		"a device":                  {0: rawDir("((1:ai1;))"), 1: stat(mode.Device)},
		"a pipe":                    {0: rawDir("((1:ai1;))"), 1: stat(mode.Pipe)},
		"a pipe that stands within": {0: rawDir("((1:ai1;))"), 1: rawDir("((1:ai2;))"), 2: stat(mode.Pipe)},
		"in two directories":        {0: rawDir("((1:ai1;)(1:bi2;))"), 1: rawDir("((1:xi3;))"), 2: rawDir("((1:xi3;))"), 3: file("")},
		"within and without":        {0: rawDir("((1:ai1;)(1:bi3;))"), 1: rawDir("((1:xi3;))"), 3: file("")},
		"without and within":        {0: rawDir("((1:bi3;)(1:ci1;))"), 1: rawDir("((1:xi3;))"), 3: file("")},
		"within itself":             {0: rawDir("((1:ai1;))"), 1: rawDir("((1:ai1;))")},
		"within the one within":     {0: rawDir("((1:ai1;))"), 1: rawDir("((1:ai2;))"), 2: rawDir("((1:ai1;))")},
		"the root within":           {0: rawDir("((1:ai1;))"), 1: rawDir("((1:ai0;))")},
		"the root within itself":    {0: rawDir("((1:ai0;))")},
		"nowhere":                   {0: rawDir("()"), 39: file("")},
		"nowhere, an empty one":     {0: rawDir("()"), 1: rawDir("()")},
		"nowhere, with one within":  {0: rawDir("()"), 1: rawDir("((1:ai2;))"), 2: file("")},
		"a ring of its own":         {0: rawDir("()"), 1: rawDir("((1:ai2;))"), 2: rawDir("((1:ai1;))")},
		"itself alone":              {0: rawDir("()"), 1: rawDir("((1:ai1;))")},
		"a device nowhere":          {0: rawDir("()"), 1: stat(mode.Device)},
		"a name of a free node":     {0: rawDir("((1:ai1;)(1:bi2;))"), 1: file("")},
		"a file of nine names":      chained(8, file("")),
		"a directory of nine names": chained(8, rawDir("()")),
		"twelve directories":        chained(12),
	} {
		refusesToOpen(t, what, raw(t, l))
	}
	for what, l := range map[string]map[int]inode.Node{
		"a file of eight names":      chained(7, file("")),
		"a directory of eight names": chained(8),
		"a link of eight names":      chained(7, link("")),
		"all kinds, and all signs": {0: rawDir("((1:-i5;)(2:.xi4;)(1:0i3;)(1:_i2;)(1:ai1;)(2:a-i39;)(2:a0i6;)(1:bi7;))"), 1: rawDir("()"),
			2: file(""), 3: file("()"), 4: link("//"), 5: link(""), 6: link(strings.Repeat("x", 512)), 7: rawDir("((1:ai8;))"), 8: file("((1:ai8;))"),
			39: file(strings.Repeat("y", 512))},
	} {
		x := raw(t, l)
		ahead := nodes(x)
		f, e := Open(x)
		errs(t, what, e, api.OK)
		if !maps.EqualFunc(nodes(x), ahead, inode.Same) || len(f.Walk()) != len(l)-1 {
			t.Fatalf("%s: %v", what, f.Walk())
		}
		for _, item := range f.Walk() {
			if n, e := f.Begin().Get(item.Path...); e != api.OK || !inode.Same(n, item.Node) {
				t.Fatalf("%s: Get(%q): %v, %d", what, item.Path, n, e)
			}
		}
	}
}

// P1: a table that is changed past its tree ends no call: each has an answer.
func TestTableChangedPastTree(t *testing.T) {
	wide := "("
	for i := range 30 {
		wide += fmt.Sprintf("(2:%c%ci1;)", 'a'+i/10, '0'+i%10)
	}
	for _, s := range []string{"", "((1:ai1;)(2:a0i1;))", "((1:ai9;)(2:a0i1;))", "((1:ai0;)(2:a0i0;))", "((2:a0i-1;))", wide + ")", "((1:bi4;))", "drop"} {
		b := planted(t, 200, 10, 60)
		b.plant(t, plant{"a", dir()}, plant{"a/a", dir()}, plant{"a/l", link("/a/a")}, plant{"b", file("b")})
		l := []inode.Change{{No: 1, Node: rawDir(s)}}
		if s == "drop" {
			l = []inode.Change{{No: 0, Drop: true}, {No: 1, Drop: true}}
		}
		errs(t, "Remove", b.c.Remove("b"), api.OK)
		errs(t, "Apply", b.x.Apply(l...), api.OK)
		if l := b.f.Walk(); l != nil {
			t.Fatalf("%q: Walk: %v", s, l)
		}
		if _, e := b.c.Get("a", "b"); e == api.OK {
			t.Fatalf("%q: /a/b is there", s)
		}
		for _, p := range [][]string{at("a"), at("a/a"), at("a/b"), at("a0"), at("a/a0/a0/a0/a0"), at("a/l/a0"), at("a/a0/l"), nil} {
			_, _ = b.c.Get(p...)
			_, _, _ = b.c.Follow(p...)
			_, _ = b.c.List(p...)
			_ = b.c.Put(nil, p...)
			_ = b.c.Set(dir().Stat, p...)
			_ = b.c.Rename(p, at("c"))
			_ = b.c.Make(file(""), append(p, "new")...)
			_ = b.c.Remove(p...)
		}
		_ = b.c.Commit()
		_ = b.f.Walk()
	}
}
