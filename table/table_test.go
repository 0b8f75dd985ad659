package table

import (
	"fmt"
	"slices"
	"strings"
	"testing"

	"creel/api"
	"creel/codec"
	"creel/inode"
	"creel/mode"
	"creel/tree"
)

// long is a name of 24 signs, that ends with a number.
func long(n int) string { return fmt.Sprintf("%s%02d", strings.Repeat("n", 22), n) }

// noNames are texts that are no names.
func noNames() []string {
	return []string{"", ".", "..", "A", "/", "a/b", "../a", "a ", "a\n", "\x00", "\xc3\xa9", strings.Repeat("a", 25)}
}

// sized is a text of so many bytes, with those that tell how many there are.
func sized(n int) codec.Value {
	for signs := range n {
		if text := strings.Repeat("x", n-signs); len(fmt.Sprint(len(text), ":")) == signs {
			return codec.Text(text)
		}
	}
	panic("no text has so many bytes")
}

// nested is a value of that depth.
func nested(n int) codec.Value {
	v := codec.Int(1)
	for range n {
		v = codec.Of(v)
	}
	return v
}

// values are right ones, of each kind.
func values() []codec.Value {
	return []codec.Value{
		codec.Int(0), codec.Int(-7), codec.Int(1 << 62), codec.Text(""), codec.Text("\x00;(é"), codec.Of(), nested(8),
		codec.Of(codec.Int(1), codec.Of(codec.Text("a"), codec.Of()), codec.Text("b")),
	}
}

// wrong are values that are not right, and Check's errors of them.
func wrong() map[api.Errno][]codec.Value {
	return map[api.Errno][]codec.Value{
		api.ErrType: {{Kind: 3}, {Kind: -1}, {N: 1, B: []byte("a")}, codec.Of(codec.Int(1), codec.Value{Kind: 9}), codec.Of(codec.Value{Kind: 9}, sized(600))},
		api.ErrLoop: {nested(9), codec.Of(nested(8), sized(600))},
		api.ErrLong: {codec.Text(strings.Repeat("x", api.MaxBytes))},
	}
}

// nothing are bytes that are no value's, or not only.
func nothing() []string {
	return []string{"", "x", "i1", "i01;", "i-0;", "i1;i2;", "i1; ", "2:a", "((", ")", "i9223372036854775808;", strings.Repeat("(", 9) + strings.Repeat(")", 9), strings.Repeat("x", 512)}
}

// P9.1: which errors Of has; of each name there is a table.
func TestOf(t *testing.T) {
	b := planted(t, 20)
	for _, name := range append(noNames(), "a") {
		x, e := Of(nil, name)
		if x != nil || e != api.ErrState {
			t.Errorf("Of(nil, %q): %v, %d", name, x, e)
		}
	}
	for _, name := range noNames() {
		if x, e := Of(b.c, name); x != nil || e != api.ErrPath {
			t.Errorf("Of(%q): %v, %d", name, x, e)
		}
	}
	for _, name := range []string{"a", "db", "...", "-_.0", long(24), "sys.packages"} {
		b.asked(t, name, "a")
		if b.c.Count() != 0 {
			t.Errorf("Of(%q) and what is asked change something", name)
		}
	}
	for _, name := range []string{"a", "db", "...", "-_.0", long(24), "sys.packages"} {
		b.put(t, name, "a", codec.Text(name))
	}
	b.commit(t)
}

// P9.4: a nil table is ErrState, and nothing, whatever is asked of it.
func TestNil(t *testing.T) {
	var x *Table
	calls := 0
	do := func(string, codec.Value) bool { calls++; return true }
	for _, key := range append(noNames(), "a") {
		if v, e := x.Get(key); e != api.ErrState || !codec.Same(v, codec.Value{}) {
			t.Errorf("Get(%q): %v, %d", key, v, e)
		}
		errs(t, "Put", x.Put(key, codec.Int(1)), api.ErrState)
		errs(t, "Put", x.Put(key, codec.Value{Kind: 9}), api.ErrState)
		if n, e := x.Drop(key); n != 0 || e != api.ErrState {
			t.Errorf("Drop(%q): %d, %d", key, n, e)
		}
		if x.Has(key) {
			t.Errorf("Has(%q)", key)
		}
	}
	if n, e := x.Drop(); n != 0 || e != api.ErrState {
		t.Errorf("Drop(): %d, %d", n, e)
	}
	if l, e := x.Keys(); l != nil || e != api.ErrState {
		t.Errorf("Keys: %q, %d", l, e)
	}
	errs(t, "Each", x.Each(do), api.ErrState)
	errs(t, "Each", x.Each(nil), api.ErrState)
	if l, e := Tables(nil); l != nil || e != api.ErrState {
		t.Errorf("Tables(nil): %q, %d", l, e)
	}
	if calls > 0 {
		t.Error("Each of a nil table tells something")
	}
}

// P1: no call panics, of tables and changes that nobody made, and of changes
// that are over; nothing is there.
func TestNobodys(t *testing.T) {
	b := planted(t, 20)
	over := b.of(t, "x")
	errs(t, "Put", over.Put("a", codec.Int(1)), api.OK)
	errs(t, "Commit", b.c.Commit(), api.OK)
	unmade, _ := Of(&tree.Change{}, "x")
	for _, x := range []*Table{{}, over, unmade} {
		v, e := x.Get("a")
		if e == api.OK || !codec.Same(v, codec.Value{}) || x.Has("a") {
			t.Errorf("Get: %v, %d", v, e)
		}
		if e := x.Put("b", codec.Int(1)); e == api.OK {
			t.Errorf("Put: %d", e)
		}
		if n, e := x.Drop("a"); n != 0 || e == api.OK {
			t.Errorf("Drop: %d, %d", n, e)
		}
		x.Drop()
		if l, e := x.Keys(); len(l) != 0 || e == api.OK {
			t.Errorf("Keys: %q, %d", l, e)
		}
		if e := x.Each(func(string, codec.Value) bool { panic("told") }); e == api.OK {
			t.Errorf("Each: %d", e)
		}
	}
	for _, c := range []*tree.Change{b.c, {}} {
		if l, e := Tables(c); len(l) != 0 || e == api.OK {
			t.Errorf("Tables: %q, %d", l, e)
		}
	}
}

// P9.1 to P9.3: of a table without its directory, without /db, and of one whose
// last key was dropped, nothing is there; its directory stays.
func TestEmpty(t *testing.T) {
	b := planted(t, 20)
	bare := func(what string, tables ...string) {
		t.Helper()
		x := b.of(t, "x")
		if v, e := x.Get("a"); e != api.ErrNone || !codec.Same(v, codec.Value{}) || x.Has("a") {
			t.Errorf("%s: Get: %v, %d", what, v, e)
		}
		if l, e := x.Keys(); len(l) != 0 || e != api.OK {
			t.Errorf("%s: Keys: %q, %d", what, l, e)
		}
		errs(t, what, x.Each(func(string, codec.Value) bool { t.Error(what, "is told"); return true }), api.OK)
		if n, e := x.Drop("a", "b"); n != 0 || e != api.OK {
			t.Errorf("%s: Drop: %d, %d", what, n, e)
		}
		if l, e := Tables(b.c); !slices.Equal(l, tables) || e != api.OK {
			t.Errorf("%s: Tables: %q, %d", what, l, e)
		}
		b.asked(t, "x", "a")
	}
	bare("without /db")
	b.put(t, "y", "a", codec.Int(1))
	bare("without its directory", "y")
	b.put(t, "x", "a", codec.Int(1))
	b.put(t, "x", "b", codec.Int(1))
	if n, e := b.drop(t, "x", "b", "a"); n != 2 || e != api.OK {
		t.Errorf("Drop: %d, %d", n, e)
	}
	bare("without keys", "x", "y")
	b.commit(t)
	bare("without keys, committed", "x", "y")
	for _, p := range [][]string{{"db"}, {"db", "x"}} {
		if n, e := b.c.Get(p...); e != api.OK || n.Stat != (mode.Stat{Kind: 1, Mode: 448}) {
			t.Errorf("%q: %v, %d", p, n, e)
		}
	}
}

// P9.2, with the example: what stands where behind Put.
func TestPut(t *testing.T) {
	b := planted(t, 30)
	b.put(t, "x", "a", codec.Int(1))
	for p, want := range map[string]string{"db": "1 448", "db/x": "1 448", "db/x/a": "0 384i1;"} {
		n, e := b.c.Get(at(p)...)
		if got := fmt.Sprintf("%d %d%s", n.Stat.Kind, n.Stat.Mode, n.Data); e != api.OK || got != want || n.Stat.Owner != 0 || n.Stat.Group != 0 {
			t.Errorf("%s: %v, %d; want %s", p, n, e, want)
		}
	}
	if b.c.Count() != 4 {
		t.Errorf("Count: %d", b.c.Count())
	}
	for i, v := range values() {
		b.put(t, "x", "a", v)
		b.put(t, "x", fmt.Sprint("v", i), v)
	}
	b.commit(t)
	for i, v := range values() {
		if got, e := b.of(t, "x").Get(fmt.Sprint("v", i)); e != api.OK || !codec.Same(got, v) {
			t.Errorf("%v, committed: %v, %d", v, got, e)
		}
	}
	b.put(t, "x", "v0", codec.Int(0))
	if b.c.Count() != 0 {
		t.Errorf("the value that was there: Count: %d", b.c.Count())
	}
}

// P9.1, P9.2: names of 24 signs, and of one more, and what is no name else.
func TestNames(t *testing.T) {
	b := planted(t, 20)
	b.put(t, long(1), long(2), codec.Int(1))
	b.put(t, "x", "a", codec.Int(1))
	for _, key := range noNames() {
		if e := b.put(t, "x", key, codec.Int(1)); e != api.ErrPath {
			t.Errorf("Put(%q): %d", key, e)
		}
		b.put(t, "none", key, codec.Int(1))
		for _, keys := range [][]string{{key}, {"a", key}, {key, "a"}, {"none", "a", key, "a"}} {
			if n, e := b.drop(t, "x", keys...); n != 0 || e != api.ErrPath {
				t.Errorf("Drop(%q): %d, %d", keys, n, e)
			}
		}
	}
	for _, key := range []string{"...", "-", "_", "0", "a.b", "a"} {
		if e := b.put(t, "x", key, codec.Int(2)); e != api.OK {
			t.Errorf("Put(%q): %d", key, e)
		}
	}
	if l, _ := b.of(t, "x").Keys(); !slices.Equal(l, []string{"-", "...", "0", "_", "a", "a.b"}) {
		t.Errorf("Keys: %q", l)
	}
}

// P9.2: a value's bytes are 512 at most.
func TestLong(t *testing.T) {
	b := planted(t, 20)
	texts := func(last int) codec.Value { return codec.Of(sized(250), sized(200), sized(last)) }
	for _, c := range []struct {
		v    codec.Value
		want api.Errno
	}{
		{sized(511), api.OK}, {sized(512), api.OK}, {sized(513), api.ErrLong}, {sized(600), api.ErrLong},
		{texts(60), api.OK}, {texts(61), api.ErrLong}, {sized(api.MaxBytes), api.ErrLong},
	} {
		b.put(t, "x", "old", codec.Int(1))
		for _, key := range []string{"new", "old"} {
			if e := b.put(t, "x", key, c.v); e != c.want {
				t.Errorf("Put: %d; want %d", e, c.want)
			}
		}
		b.commit(t)
		b.drop(t, "x", "new")
	}
}

// P9.2: a value that is not right is Check's error, ahead of how long it is and
// of what stands where; no name is ahead of it.
func TestWrongValues(t *testing.T) {
	b := planted(t, 30)
	b.plant(t, dir("db"), dir("db/x"), dir("db/x/a"), file("db/f", ""))
	b.put(t, "x", "b", codec.Int(1))
	for want, l := range wrong() {
		for _, v := range l {
			for _, at := range [][2]string{{"none", "a"}, {"x", "a"}, {"x", "b"}, {"x", "new"}, {"f", "a"}} {
				if e := b.put(t, at[0], at[1], v); e != want {
					t.Errorf("Put(%q, %v): %d; want %d", at, v, e, want)
				}
			}
			if e := b.put(t, "x", "A", v); e != api.ErrPath {
				t.Errorf("Put of no name: %d", e)
			}
		}
	}
	for _, at := range [][2]string{{"x", "a"}, {"f", "a"}} {
		if e := b.put(t, at[0], at[1], sized(513)); e != api.ErrLong {
			t.Errorf("too long at %q: %d", at, e)
		}
		if e := b.put(t, at[0], at[1], sized(512)); e != api.ErrType {
			t.Errorf("at %q: %d", at, e)
		}
	}
}

// P9.2: a file that stands at a key keeps its mode, owner and group, whatever
// bytes it has, committed or not.
func TestKeeps(t *testing.T) {
	for i, s := range []mode.Stat{{Mode: 0, Owner: 65535, Group: 1}, {Mode: 4095}, {Mode: 0o644, Owner: 7, Group: 9}} {
		for _, data := range []string{"i1;", "", "none", strings.Repeat("x", 512)} {
			for _, committed := range []bool{true, false} {
				b := planted(t, 20)
				b.plant(t, dir("db"), dir("db/x"), plant{"db/x/a", s, data})
				if committed {
					b.commit(t)
				}
				b.put(t, "x", "a", codec.Int(i))
				if n, e := b.c.Get("db", "x", "a"); e != api.OK || n.Stat != s || string(n.Data) != fmt.Sprintf("i%d;", i) {
					t.Errorf("%v, %d; want %v", n, e, s)
				}
				for _, p := range []string{"db", "db/x"} {
					if n, e := b.c.Get(at(p)...); e != api.OK || n.Stat != dir(p).s {
						t.Errorf("%s: %v, %d", p, n, e)
					}
				}
				b.commit(t)
			}
		}
	}
}

// P9.1 to P9.3: something else stands where a key, a table or /db should,
// committed or not. Where it is /db that is no directory, no table is there: only
// Put and Tables have an error of it.
func TestInTheWay(t *testing.T) {
	for _, c := range []struct {
		what               string
		l                  []plant
		get, put, keys, in api.Errno // in is Tables'
	}{
		{"a directory at the key", []plant{dir("db"), dir("db/x"), dir("db/x/a")}, api.ErrForm, api.ErrType, api.OK, api.OK},
		{"a directory with names at the key", []plant{dir("db"), dir("db/x"), dir("db/x/a"), file("db/x/a/a", "i1;")}, api.ErrForm, api.ErrType, api.OK, api.OK},
		{"a link at the key", []plant{dir("db"), dir("db/x"), file("f", "i1;"), link("db/x/a", "/f")}, api.ErrForm, api.ErrType, api.OK, api.OK},
		{"a link like a value at the key", []plant{dir("db"), dir("db/x"), link("db/x/a", "i1;")}, api.ErrForm, api.ErrType, api.OK, api.OK},
		{"a file at the table", []plant{dir("db"), file("db/x", "i1;")}, api.ErrNone, api.ErrType, api.ErrType, api.OK},
		{"a link at the table", []plant{dir("db"), dir("db/y"), file("db/y/a", "i1;"), link("db/x", "y")}, api.ErrNone, api.ErrType, api.ErrType, api.OK},
		{"a file at /db", []plant{file("db", "")}, api.ErrNone, api.ErrType, api.OK, api.ErrType},
		{"a link at /db", []plant{dir("e"), dir("e/x"), file("e/x/a", "i1;"), link("db", "e")}, api.ErrNone, api.ErrType, api.OK, api.ErrType},
		{"a link to nothing at /db", []plant{link("db", "none")}, api.ErrNone, api.ErrType, api.OK, api.ErrType},
	} {
		b := planted(t, 20)
		b.plant(t, c.l...)
		for range 2 { // not committed, and committed
			x := b.of(t, "x")
			v, e := x.Get("a")
			errs(t, c.what+": Get", e, c.get)
			if !codec.Same(v, codec.Value{}) || x.Has("a") {
				t.Errorf("%s: %v is there", c.what, v)
			}
			errs(t, c.what+": Put", b.put(t, "x", "a", codec.Int(1)), c.put)
			if n, e := b.drop(t, "x", "a"); n != 0 || e != api.OK {
				t.Errorf("%s: Drop: %d, %d", c.what, n, e)
			}
			l, e := x.Keys()
			errs(t, c.what+": Keys", e, c.keys)
			if len(l) != 0 {
				t.Errorf("%s: Keys: %q", c.what, l)
			}
			errs(t, c.what+": Each", x.Each(func(string, codec.Value) bool { t.Error(c.what, "is told"); return true }), c.keys)
			_, e = Tables(b.c)
			errs(t, c.what+": Tables", e, c.in)
			b.commit(t)
		}
	}
}

// P9.3: the kinds beside one another: files are keys, and directories tables.
func TestKinds(t *testing.T) {
	b := planted(t, 30)
	b.plant(t, dir("db"), file("db/f", ""), link("db/l", "x"), dir("db/x"), dir("db/d"), dir("db/x/d"), file("db/x/c", "i3;"), link("db/x/b", "c"), file("db/x/a", "i1;"), dir("db/d/in"))
	if l, e := Tables(b.c); e != api.OK || !slices.Equal(l, []string{"d", "x"}) {
		t.Errorf("Tables: %q, %d", l, e)
	}
	if l, e := b.of(t, "x").Keys(); e != api.OK || !slices.Equal(l, []string{"a", "c"}) {
		t.Errorf("Keys: %q, %d", l, e)
	}
	b.put(t, "d", "in", codec.Int(1))
	b.put(t, "x", "b", codec.Int(1))
	b.put(t, "x", "c", codec.Int(1))
	b.drop(t, "x", "a", "b", "c", "d")
	b.asked(t, "x")
}

// P9.1, P9.3: a key whose bytes are no value's is a key, but has no value.
func TestNoValue(t *testing.T) {
	for _, data := range nothing() {
		b := planted(t, 20)
		b.plant(t, dir("db"), dir("db/x"), file("db/x/a", "i1;"), file("db/x/b", data), file("db/x/c", "i3;"))
		x := b.of(t, "x")
		if v, e := x.Get("b"); e != api.ErrForm || !codec.Same(v, codec.Value{}) || x.Has("b") {
			t.Errorf("%q: Get: %v, %d", data, v, e)
		}
		if l, e := x.Keys(); e != api.OK || !slices.Equal(l, []string{"a", "b", "c"}) {
			t.Errorf("%q: Keys: %q, %d", data, l, e)
		}
		var told []string
		if e := x.Each(func(key string, v codec.Value) bool { told = append(told, key); return true }); e != api.OK || !slices.Equal(told, []string{"a", "c"}) {
			t.Errorf("%q: Each: %q, %d", data, told, e)
		}
		if n, e := b.drop(t, "x", "b"); n != 1 || e != api.OK {
			t.Errorf("%q: Drop: %d, %d", data, n, e)
		}
		b.plant(t, file("db/x/b", data))
		b.put(t, "x", "b", codec.Int(2))
		b.commit(t)
	}
}

// P9.2: Drop of keys that are there, that aren't, that are told twice.
func TestDrop(t *testing.T) {
	for _, c := range []struct {
		keys []string
		want int
	}{
		{nil, 0}, {[]string{"a"}, 1}, {[]string{"none"}, 0}, {[]string{"c", "none", "a"}, 2}, {[]string{"a", "a"}, 1},
		{[]string{"none", "none", "b", "a", "b", "none", "a", "c"}, 3}, {[]string{"d", "l", "a"}, 1}, {[]string{long(1)}, 0},
	} {
		b := planted(t, 20)
		for _, key := range []string{"a", "b", "c"} {
			b.put(t, "x", key, codec.Text(key))
			b.put(t, "y", key, codec.Text("other "+key))
		}
		b.plant(t, dir("db/x/d"), link("db/x/l", "a"))
		for range 2 {
			if n, e := b.drop(t, "x", c.keys...); n != c.want || e != api.OK {
				t.Errorf("Drop(%q): %d, %d; want %d", c.keys, n, e, c.want)
			}
			c.want = 0
		}
		b.commit(t)
		for _, key := range c.keys {
			b.put(t, "x", key, codec.Text("again"))
		}
	}
}

// P9.3: Each tells of keys till its function says false.
func TestEach(t *testing.T) {
	b := planted(t, 20)
	keys := []string{"-", "a", "aa", "b", "z"}
	for i, key := range slices.Backward(keys) {
		b.put(t, "x", key, codec.Int(i))
	}
	b.plant(t, file("db/x/a0", "none"))
	x := b.of(t, "x")
	for last := range len(keys) + 1 {
		var told []string
		e := x.Each(func(key string, v codec.Value) bool {
			if v.N != len(told) || v.Kind != codec.Number {
				t.Errorf("%q has %v", key, v)
			}
			told = append(told, key)
			return len(told) <= last
		})
		if want := keys[:min(last+1, len(keys))]; e != api.OK || !slices.Equal(told, want) {
			t.Errorf("false at %d: %q, %d", last, told, e)
		}
	}
	errs(t, "Each(nil)", x.Each(nil), api.OK)
	b.asked(t, "x")
}

// P9.3, P1: what is told may change the table, which ends, too.
func TestEachChanges(t *testing.T) {
	b := planted(t, 30)
	for _, key := range []string{"a", "b", "c", "d"} {
		b.put(t, "x", key, codec.Text(key))
	}
	x := b.of(t, "x")
	var told []string
	e := x.Each(func(key string, v codec.Value) bool {
		told = append(told, key+string(v.B))
		switch key {
		case "a":
			errs(t, "Drop", dropped(x, "a", "b"), api.OK)
			errs(t, "Put", x.Put("c", codec.Text("new")), api.OK)
		default:
			errs(t, "Put", x.Put(key+"x", codec.Text(key)), api.OK)
		}
		return true
	})
	if want := []string{"aa", "cnew", "dd"}; e != api.OK || !slices.Equal(told, want) {
		t.Errorf("Each: %q, %d; want %q", told, e, want)
	}
	if l, e := x.Keys(); e != api.OK || !slices.Equal(l, []string{"c", "cx", "d", "dx"}) {
		t.Errorf("Keys: %q, %d", l, e)
	}
}

// dropped is Drop's error.
func dropped(x *Table, keys ...string) api.Errno {
	_, e := x.Drop(keys...)
	return e
}

// P9.2: no node is free, or one, or two, when no directory, one, or both are
// still to be made; what is made on the way doesn't stay.
func TestNoNode(t *testing.T) {
	for _, there := range [][]plant{nil, {dir("db")}, {dir("db"), dir("db/x")}} {
		for free := range 5 {
			for _, committed := range []bool{true, false} {
				b := planted(t, 10)
				b.plant(t, there...)
				for i := 1 + len(there); i < 10-free; i++ {
					b.plant(t, file(fmt.Sprint("f", i), ""))
				}
				if committed {
					b.commit(t)
				}
				want := api.OK
				if free < 3-len(there) {
					want = api.ErrFull
				}
				count := b.c.Count()
				if e := b.put(t, "x", "a", codec.Int(1)); e != want {
					t.Errorf("%d are there, %d free: %d; want %d", len(there), free, e, want)
				}
				if want != api.OK && b.c.Count() != count {
					t.Errorf("%d are there, %d free: Count: %d; %d ahead", len(there), free, b.c.Count(), count)
				}
				b.commit(t)
			}
		}
	}
}

// P9.2: as above, where the nodes that are free are ones that the change
// itself took away.
func TestNoNodeTakenAway(t *testing.T) {
	for away := range 4 {
		b := planted(t, 6)
		for i := range 5 {
			b.plant(t, file(fmt.Sprint("f", i), "ahead"))
		}
		b.commit(t)
		n := b.m
		for i := range away {
			p := fmt.Sprint("f", 3-i)
			n = n.without("/" + p)
			errs(t, "Remove", b.c.Remove(p), api.OK)
			b.did(t, "Remove", n)
		}
		want := api.ErrFull
		if away == 3 {
			want = api.OK
		}
		errs(t, "Put", b.put(t, "x", "a", codec.Int(1)), want)
		b.commit(t)
	}
}

// filled are files that make a directory's names need just so many bytes.
func filled(m model, in string, size int) ([]plant, bool) {
	if m.size(in) == size {
		return nil, true
	}
	for more := 22; more >= 0; more-- {
		x := file(fmt.Sprintf("%s/%02d%s", in, len(m.names(in)), strings.Repeat("n", more))[1:], "i1;")
		if n, room := m.with("/"+x.at, x.s, x.data); room {
			if l, done := filled(n, in, size); done {
				return append([]plant{x}, l...), true
			}
		}
	}
	return nil, false
}

// P9.2: a key in a table, a table in /db, and /db in the root, where all names
// need just 512 bytes, or one more.
func TestFullDirectory(t *testing.T) {
	for _, c := range []struct {
		in, entry string // where is no room, and for what
		ahead     []plant
	}{
		{"/db/x", "(1:ai20;)", []plant{dir("db"), dir("db/x")}},
		{"/db", "(1:xi20;)", []plant{dir("db")}},
		{"", "(2:dbi20;)", nil},
	} {
		for over := range 2 {
			b := planted(t, 40)
			b.plant(t, c.ahead...)
			l, done := filled(b.m, c.in, 512-len(c.entry)+over)
			if !done {
				t.Fatalf("%q can't be filled", c.in)
			}
			b.plant(t, l...)
			b.commit(t)
			want := []api.Errno{api.OK, api.ErrFull}[over]
			errs(t, fmt.Sprintf("%q has %d too many: Put", c.in, over), b.put(t, "x", "a", codec.Int(1)), want)
			b.commit(t)
			if over == 1 {
				// Room for one is room again.
				errs(t, "Remove", b.c.Remove(at(l[3].at)...), api.OK)
				b.did(t, "Remove", b.m.without("/"+l[3].at))
				errs(t, "Put", b.put(t, "x", "a", codec.Int(1)), api.OK)
				b.commit(t)
				continue
			}
			if b.m.size(c.in) != 512 {
				t.Fatalf("%q has %d bytes", c.in, b.m.size(c.in))
			}
			errs(t, "Put of what is there", b.put(t, "x", "a", codec.Int(2)), api.OK)
			if c.in == "/db/x" {
				errs(t, "Put", b.put(t, "x", "b", codec.Int(1)), api.ErrFull)
				b.drop(t, "x", "a")
				errs(t, "Put", b.put(t, "x", "b", codec.Int(1)), api.OK)
			} else {
				errs(t, "Put", b.put(t, "x", "b", codec.Int(1)), api.OK)
			}
			if c.in == "/db" {
				errs(t, "Put", b.put(t, "y", "a", codec.Int(1)), api.ErrFull)
			}
			b.commit(t)
		}
	}
}

// P9.2: which of the errors in the way and full is told.
func TestTypeAheadOfFull(t *testing.T) {
	for _, l := range [][]plant{{file("db", "")}, {dir("db"), file("db/x", "")}, {dir("db"), dir("db/x"), dir("db/x/a")}, {dir("db"), link("db/x", "y")}} {
		b := planted(t, len(l)+1)
		b.plant(t, l...)
		errs(t, "Put", b.put(t, "x", "a", codec.Int(1)), api.ErrType)
		errs(t, "Put", b.put(t, "x", "a", sized(513)), api.ErrLong)
		errs(t, "Put", b.put(t, "x", "a", codec.Value{Kind: 9}), api.ErrType)
		errs(t, "Put", b.put(t, "x", "A", codec.Value{Kind: 9}), api.ErrPath)
	}
}

// P9.4: what was put last is there till it is dropped; what isn't committed
// leaves nothing; another table, and what is outside of /db, stay.
func TestFollows(t *testing.T) {
	b := planted(t, 40)
	b.plant(t, dir("x"), file("x/a", "mine"), file("a", "too"), link("l", "db"))
	b.put(t, "x", "a", codec.Int(1))
	b.put(t, "y", "a", codec.Int(2))
	b.commit(t)
	b.put(t, "x", "a", codec.Int(3))
	b.drop(t, "y", "a")
	b.put(t, "z", "a", codec.Int(3))
	b.begin()
	b.asked(t, "x", "a")
	b.asked(t, "y", "a")
	b.asked(t, "z", "a")
	// Two tables of one name and change are the same.
	one, other := b.of(t, "x"), b.of(t, "x")
	errs(t, "Put", one.Put("b", codec.Int(4)), api.OK)
	if v, e := other.Get("b"); e != api.OK || v.N != 4 {
		t.Errorf("Get: %v, %d", v, e)
	}
	if n, e := other.Drop("b", "a"); n != 2 || e != api.OK || one.Has("b") || one.Has("a") {
		t.Errorf("Drop: %d, %d", n, e)
	}
	// Those of another change aren't.
	c := b.f.Begin()
	if x, e := Of(c, "x"); e != api.OK || !x.Has("a") {
		t.Errorf("another change: %d", e)
	}
}

// P9.1: what a table tells is what the tree has when it is asked.
func TestTreeBeside(t *testing.T) {
	b := planted(t, 20)
	x := b.of(t, "x")
	b.put(t, "x", "a", codec.Int(1))
	errs(t, "Put", b.c.Put([]byte("i2;"), "db", "x", "a"), api.OK)
	if v, e := x.Get("a"); e != api.OK || v.N != 2 {
		t.Errorf("Get: %v, %d", v, e)
	}
	errs(t, "Rename", b.c.Rename([]string{"db", "x"}, []string{"db", "y"}), api.OK)
	if x.Has("a") {
		t.Error("what was moved is there")
	}
	errs(t, "Make", b.c.Make(inode.Node{Stat: mode.Stat{Kind: mode.Dir}}, "db", "x"), api.OK)
	errs(t, "Put", x.Put("a", codec.Int(5)), api.OK)
	if n, e := b.c.Get("db", "x"); e != api.OK || n.Stat.Mode != 0 {
		t.Errorf("a directory that stood there: %v, %d", n, e)
	}
}
