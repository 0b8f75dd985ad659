package chain

import (
	"encoding/hex"
	"fmt"
	"slices"
	"strings"
	"testing"

	"creel/api"
	"creel/codec"
	"creel/table"
)

// hexed is a digest's text.
func hexed(d [32]byte) string { return hex.EncodeToString(d[:]) }

// P11.1: the marks of no records, of one and of many, by digests that were worked
// out elsewhere.
func TestMarks(t *testing.T) {
	const none = "9414886b1ebf025db067a4cbd13a0903fbd9733a5372bba1b58bd72c1699b798"
	behind := []string{
		"8db77fa7dd4089cdb96a0b583639372744379fc0d091b9535b2ee9de11e4d4cd",
		"c4308e2fe7b05c7481ca447243290cc8d291f3db8d64012ca8978b540e0bf246",
		"dbe09654e4e061a68c6cfcc098ebf6e78bd07a1d0535874516dba37da53d8078",
	}
	records := []string{"one", "", "three"}
	if got := hexed(Start()); got != none {
		t.Errorf("Start: %s", got)
	}
	if got := Marks(); len(got) != 0 {
		t.Errorf("Marks of none: %x", got)
	}
	mark := Start()
	for no, want := range behind {
		mark = Mark(mark, no, []byte(records[no]))
		if got := hexed(mark); got != want {
			t.Errorf("Mark %d: %s; want %s", no, got, want)
		}
		l := Marks(bytesOf(records[:no+1]...)...)
		if len(l) != no+1 {
			t.Fatalf("%d marks of %d records", len(l), no+1)
		}
		for i, got := range l {
			if hexed(got) != behind[i] {
				t.Errorf("mark %d of %d: %x; want %s", i, len(l), got, behind[i])
			}
		}
	}
	for _, c := range []struct {
		no   int
		b    string
		want string
	}{
		{0x0102030405060708, "ab", "657cdf349823bb9e3fb114298741f0fd53d86c22c793148a7065ecf813a9984e"},
		{-1, "", "e8a3945d8fd6494b9598d58f68ac24369a266bb037e10338f16a2f556723619d"},
		{-1 << 63, strings.Repeat("x", 401), "9b8e4a908345bd244a705e81d9b07fb93f1f10a60935b6d46226f5796b9e11a1"},
		{1<<63 - 1, "", "e5e69e63a68c8430fde287fbe196d26a08c81ada512f5b366f5f906677e652ae"},
	} {
		if got := hexed(Mark([32]byte{}, c.no, []byte(c.b))); got != c.want {
			t.Errorf("Mark of number %d: %s; want %s", c.no, got, c.want)
		}
	}
}

// P11.1: a mark is of the mark ahead, the number and the bytes, each by itself;
// how many bytes there are doesn't matter.
func TestMark(t *testing.T) {
	met := map[[32]byte]string{}
	for _, ahead := range [][32]byte{{}, Start(), {1}, {31: 1}, headOf("a")} {
		for _, no := range []int{0, 1, 255, 256, 1 << 32, 1 << 56, -1, -256, 1<<63 - 1, -1 << 63} {
			for _, b := range []string{"", "\x00", "a", "aa", strings.Repeat("a", 400), strings.Repeat("a", 401), strings.Repeat("b", 100000)} {
				what := fmt.Sprintf("Mark(%x, %d, %.9q of %d)", ahead, no, b, len(b))
				got := Mark(ahead, no, []byte(b))
				if got != markOf(ahead, no, b) {
					t.Errorf("%s: %x; want %x", what, got, markOf(ahead, no, b))
				}
				if x, there := met[got]; there {
					t.Errorf("%s is that of %s", what, x)
				}
				met[got] = what
			}
		}
	}
	long := bytesOf(strings.Repeat("x", 500), "", strings.Repeat("y", 10000))
	if l := Marks(long...); len(l) != 3 || l[2] != headOf(string(long[0]), "", string(long[2])) {
		t.Errorf("Marks of long records: %x", l)
	}
}

// P11.1: keys.
func TestKey(t *testing.T) {
	for no, want := range map[int]string{
		0: "r000000", 1: "r000001", 7: "r000007", 9: "r000009", 10: "r000010", 99: "r000099", 12345: "r012345", 99999: "r099999", 100000: "r100000", 999999: "r999999",
		-1: "", -7: "", -999999: "", -1000000: "", 1000000: "", 1000001: "", 9999999: "", 1<<63 - 1: "", -1 << 63: "", 1 << 32: "",
	} {
		if got := Key(no); got != want {
			t.Errorf("Key(%d): %q; want %q", no, got, want)
		}
	}
	for no := 0; no < 1000000; no += 37 {
		if got := Key(no); got != keyOf(no) {
			t.Errorf("Key(%d): %q", no, got)
		}
	}
}

// lots are records with other bytes each: of no bytes, of one, of 399 and 400.
func lots() []string {
	return []string{"one", "", "three", strings.Repeat("\x00", 400), "\xff", ")", strings.Repeat("x", 399), "3:a", "one"}
}

// P11.2, P11.3: records are added none, one and several at a time; they stand
// behind those that were there.
func TestAdd(t *testing.T) {
	b := opened(t, 60)
	if n, ok := Whole(b.x); n != 0 || !ok {
		t.Errorf("Whole of a new table: %d, %t", n, ok)
	}
	b.add(t)
	if l, e := table.Tables(b.c); len(l) != 0 || e != api.OK {
		t.Errorf("Add of none makes %q, %d", l, e)
	}
	var all []string
	for many := range 5 {
		for range 2 { // once more, behind others
			l := lots()[many : 2*many]
			if n, e := b.add(t, l...); n != many || e != api.OK {
				t.Errorf("Add of %d: %d, %d", many, n, e)
			}
			all = append(all, l...)
			if n, ok := Whole(b.x); n != len(all) || !ok {
				t.Errorf("Whole: %d, %t; want %d", n, ok, len(all))
			}
			b.commit(t)
		}
	}
	if !slices.Equal(b.l, all) || len(all) != 20 {
		t.Errorf("there are %d records; want %d", len(b.l), len(all))
	}
}

// P11.2: the value of each record, as bytes.
func TestValues(t *testing.T) {
	b := opened(t, 20)
	b.add(t, "one", "", strings.Repeat("z", 400))
	for no, want := range []string{
		"(3:one" + text(unhex(t, "8db77fa7dd4089cdb96a0b583639372744379fc0d091b9535b2ee9de11e4d4cd")) + ")",
		"(0:" + text(unhex(t, "c4308e2fe7b05c7481ca447243290cc8d291f3db8d64012ca8978b540e0bf246")) + ")",
		recordText("one", "", strings.Repeat("z", 400)),
	} {
		n, e := b.c.Get("db", "log", fmt.Sprint("r00000", no))
		if e != api.OK || string(n.Data) != want {
			t.Errorf("record %d: %.99q, %d; want %.99q", no, n.Data, e, want)
		}
	}
}

func unhex(t *testing.T, s string) []byte {
	t.Helper()
	b, e := hex.DecodeString(s)
	if e != nil {
		t.Fatal(e)
	}
	return b
}

// P11.2: one record that is too long, wherever it is among others, keeps all of
// them from being added; that is told ahead of the table's errors.
func TestLong(t *testing.T) {
	for _, l := range [][]plant{nil, {file("db", "x")}, {dir("db"), dir("db/log"), dir("db/log/r000000x")}} {
		b := opened(t, 12)
		b.plant(t, l...)
		for _, size := range []int{401, 402, 512, 1000, 200000} {
			bad := strings.Repeat("x", size)
			for _, records := range [][]string{{bad}, {"a", bad}, {bad, "a"}, {"a", "b", bad}, {"a", bad, "b"}, {"", bad, bad}} {
				if n, e := b.add(t, records...); n != 0 || e != api.ErrLong {
					t.Errorf("Add of %d bytes: %d, %d", size, n, e)
				}
			}
		}
		b.commit(t)
	}
	b := opened(t, 20)
	b.add(t, lots()[:2]...)
	b.plant(t, dir("db/log/r000002"))
	b.add(t, "a", strings.Repeat("x", 401))
	if n, e := b.add(t, strings.Repeat("x", 400)); n != 0 || e != api.ErrType {
		t.Errorf("Add of 400 bytes: %d, %d", n, e)
	}
	b.remove(t, "db/log/r000002")
	if n, e := b.add(t, strings.Repeat("x", 400)); n != 1 || e != api.OK {
		t.Errorf("Add of 400 bytes: %d, %d", n, e)
	}
	b.commit(t)
}

// others are things in a table that are no record's, whatever their kinds.
func others() []plant {
	l := []plant{dir("db"), dir("db/log"), dir("db/log/d"), dir("db/log/r"), link("db/log/l", "r000000"), link("db/log/r999999x", "/db/log/r000000")}
	for i, key := range []string{"a", "r0", "r00000", "r0000000", "r-00001", "00000", "000000", "s000000", "r000000.", "r00000a", "r-1", "...", "r000100", "r999999", "z"} {
		l = append(l, file("db/log/"+key, []string{"", "i1;", recordText("a"), "x"}[i%4]))
	}
	return l
}

// P11.2: other keys of a table don't count, whatever their kinds and what they
// have: with none of the chain's, and with those among them.
func TestOtherKeys(t *testing.T) {
	for many := range 4 {
		b := opened(t, 60)
		b.plant(t, others()...)
		if e := b.reopen(t); e != api.OK {
			t.Errorf("Open among others: %d", e)
		}
		b.add(t, lots()[:many]...)
		if n, ok := Whole(b.x); n != many || !ok {
			t.Errorf("Whole among others: %d, %t; want %d", n, ok, many)
		}
		b.commit(t)
		b.add(t, "more")
		b.commit(t)
	}
	b := opened(t, 20) // a directory without any key
	b.plant(t, dir("db"), dir("db/log"))
	b.commit(t)
	if n, ok := Whole(b.x); n != 0 || !ok {
		t.Errorf("Whole without keys: %d, %t", n, ok)
	}
}

// turned is a text with one bit turned.
func turned(s string, bit int) string {
	b := []byte(s)
	b[bit/8] ^= 1 << (bit % 8)
	return string(b)
}

// wrongRecords are bytes that the record "b" of number 1, behind "a", hasn't.
func wrongRecords() []string {
	right := recordText("a", "b")
	head := headOf("a", "b")
	mark := text(head[:])
	empty := headOf("a", "") // of a record without bytes, which is what a value of another kind has
	none := text(empty[:])
	l := []string{
		// No value's bytes.
		"", "x", "(", "()x", "i1", "i01;", right[1:], right[:len(right)-1], right + ")", right + "i1;", strings.Repeat("(", 9), strings.Repeat("x", 512),
		// No list, and lists of other lengths.
		"i1;", "1:b", mark, "0:", "()", "(1:b)", "(" + mark + ")", "(1:b" + mark + "0:)", "(1:b" + mark + mark + ")", "(1:b" + mark + "i1;)", "(1:b" + mark + "())", "(1:ai1;" + mark + ")", "(" + right + ")", "((1:b)(" + mark + "))",
		// Other kinds in each place, and another order.
		"(i1;" + mark + ")", "(i98;" + mark + ")", "(()" + mark + ")", "((1:b)" + mark + ")", "(1:bi1;)", "(1:b())", "(1:b(" + mark + "))", "(" + mark + "1:b)",
		"(i0;" + none + ")", "(i7;" + none + ")", "(()" + none + ")", "((1:b)" + none + ")", "(1:b" + none + ")",
		// Other bytes, under the mark of "b".
		marked("a", head), marked("", head), marked("bb", head), marked("B", head), marked(" b", head), marked("b\x00", head), marked(strings.Repeat("b", 400), head),
		// A mark that is another's.
		marked("b", [32]byte{}), marked("b", headOf()), marked("b", headOf("a")), marked("b", headOf("b")), marked("b", headOf("b", "b")), marked("b", headOf("a", "a")), marked("b", headOf("", "b")), marked("b", headOf("a", "b", "c")), marked("b", headOf("ab")),
		marked("b", markOf(headOf("a"), 0, "b")), marked("b", markOf(headOf("a"), 2, "b")), marked("b", markOf(headOf(), 1, "b")), marked("b", markOf(headOf("a", "b"), 1, "b")), marked("b", markOf(headOf("a"), 256, "b")),
		// Another place's record.
		recordText("a"), recordText("b"), recordText("a", "b", "c"), recordText("c", "b"),
	}
	for _, n := range []int{0, 1, 16, 31, 33, 64} {
		l = append(l, "(1:b"+text(append(head[:min(n, 32):32], make([]byte, max(n-32, 0))...))+")")
	}
	for _, n := range []int{401, 402, 471} { // more bytes than a record may have, under their mark
		l = append(l, recordText("a", strings.Repeat("b", n)))
	}
	return l
}

// P11.2: what is under a record's key isn't what must be there: the chain is
// whole up to it, and isn't whole; whichever record it is, also the last one, and
// what is under the next one's key.
func TestWrongRecords(t *testing.T) {
	for _, data := range wrongRecords() {
		for _, l := range [][]string{{"a", "b", "c"}, {"a", "b"}, {"a"}} {
			b := opened(t, 20)
			b.add(t, l...)
			b.plant(t, record(1, data))
			for range 2 { // not committed, and committed
				if n, ok := Whole(b.x); n != 1 || ok {
					t.Errorf("%.99q: Whole: %d, %t", data, n, ok)
				}
				if h, e := Open(b.x); h != nil || e != api.ErrSum {
					t.Errorf("%.99q: Open: %v, %d", data, h, e)
				}
				b.commit(t)
			}
			if data == recordText("a", "b", "c") {
				continue
			}
			b.plant(t, record(1, recordText("a", "b")))
			if n, ok := Whole(b.x); n != max(len(l), 2) || !ok {
				t.Errorf("%.99q: Whole, mended: %d, %t", data, n, ok)
			}
		}
	}
	// The same of number 0, and of number 2.
	for _, data := range append(wrongRecords(), recordText("a", "b")) {
		for _, no := range []int{0, 2, 3} {
			if data == recordText("a") || data == recordText("b") {
				continue // right ones at 0
			}
			b := opened(t, 20)
			b.lay(t, "x", "y", "z")
			b.plant(t, record(no, data))
			if n, ok := Whole(b.x); n != no || ok {
				t.Errorf("%.99q at %d: Whole: %d, %t", data, no, n, ok)
			}
			errs(t, "Open", b.reopen(t), api.ErrSum)
		}
	}
}

// P11.2, P11.3: any bit of any record that is turned is found.
func TestBentRecords(t *testing.T) {
	b := opened(t, 20)
	l := []string{"first", "", "the third one"}
	b.lay(t, l...)
	errs(t, "Open", b.reopen(t), api.OK)
	for no := range l {
		right := recordText(l[:no+1]...)
		for bit := range len(right) * 8 {
			b.plant(t, record(no, turned(right, bit)))
			if n, ok := Whole(b.x); n != no || ok {
				t.Errorf("bit %d of record %d is turned: Whole: %d, %t", bit, no, n, ok)
			}
			if h, e := Open(b.x); h != nil || e != api.ErrSum {
				t.Errorf("bit %d of record %d is turned: Open: %v, %d", bit, no, h, e)
			}
		}
		b.plant(t, record(no, right))
		errs(t, "Open, mended", b.reopen(t), api.OK)
	}
}

// P11.2: records in another order, and records that are missing: in the middle,
// the first one, the last one.
func TestPlaces(t *testing.T) {
	l := []string{"a", "b", "c", "d"}
	for _, c := range []struct {
		what  string
		at    []int // which record is under each key; below 0: none
		up    int
		whole bool
	}{
		{"all", []int{0, 1, 2, 3}, 4, true},
		{"two changed about", []int{1, 0, 2, 3}, 0, false}, {"others", []int{0, 2, 1, 3}, 1, false}, {"the last two", []int{0, 1, 3, 2}, 2, false}, {"all backward", []int{3, 2, 1, 0}, 0, false}, {"all moved", []int{1, 2, 3}, 0, false},
		{"one twice", []int{0, 0, 1, 2}, 1, false}, {"the last one twice", []int{0, 1, 2, 3, 3}, 4, false}, {"one is passed over", []int{0, 1, 3}, 2, false},
		{"none in the middle", []int{0, -1, 2, 3}, 1, true}, {"two missing", []int{0, -1, -1, 3}, 1, true}, {"the one ahead of the last", []int{0, 1, -1, 3}, 2, true},
		{"the first missing", []int{-1, 1, 2, 3}, 0, true}, {"the last alone", []int{-1, -1, -1, 3}, 0, true},
		{"the last cut away", []int{0, 1, 2, -1}, 3, true}, {"three cut away", []int{0}, 1, true}, {"all cut away", nil, 0, true},
		{"behind a gap", []int{0, 1, 2, 3, -1, 0}, 4, true},
	} {
		b := opened(t, 20)
		b.plant(t, dir("db"), dir("db/log"))
		for key, no := range c.at {
			if no >= 0 {
				b.plant(t, record(key, recordText(l[:no+1]...)))
			}
		}
		want := api.OK
		if !c.whole {
			want = api.ErrSum
		}
		for range 2 { // not committed, and committed
			if n, ok := Whole(b.x); n != c.up || ok != c.whole {
				t.Errorf("%s: Whole: %d, %t; want %d", c.what, n, ok, c.up)
			}
			errs(t, c.what, b.reopen(t), want)
			b.commit(t)
		}
		if c.whole {
			b.add(t, "new", "newer")
			b.commit(t)
		}
	}
}

// P11.2: something else than a file under a record's key, or the next one's.
func TestNoFile(t *testing.T) {
	for many := range 4 {
		for no := range 4 {
			for _, kind := range []plant{dir("db/log/" + keyOf(no)), link("db/log/"+keyOf(no), "/f")} {
				b := opened(t, 20)
				b.plant(t, file("f", recordText([]string{"a", "b", "c", "d"}[:no+1]...)))
				b.lay(t, []string{"a", "b", "c"}[:many]...)
				errs(t, "Open", b.reopen(t), api.OK)
				h := b.h
				b.plant(t, kind)
				up, nothing := min(many, no), no > many
				if n, ok := Whole(b.x); n != up || ok != nothing {
					t.Errorf("%d records, %v: Whole: %d, %t; want %d, %t", many, kind, n, ok, up, nothing)
				}
				want := api.ErrSum
				if nothing {
					want = api.OK
				}
				errs(t, "Open", b.reopen(t), want)
				b.commit(t)
				errs(t, "Open, committed", b.reopen(t), want)
				if h.Len() != many { // what was opened ahead of it has what it had
					t.Errorf("%d records, %v: Len: %d", many, kind, h.Len())
				}
			}
		}
	}
	// In the midst of an Add, behind a chain that was opened ahead of it.
	for many := range 4 {
		b := opened(t, 20)
		b.lay(t, "a")
		b.reopen(t)
		b.plant(t, dir("db/log/"+keyOf(many+1)))
		if n, e := b.add(t, "b", "c", "d", "e"); n != many || e != api.ErrType {
			t.Errorf("Add: %d, %d; want %d", n, e, many)
		}
		if n, ok := Whole(b.x); n != many+1 || ok {
			t.Errorf("Whole: %d, %t; want %d", n, ok, many+1)
		}
		b.remove(t, "db/log/"+keyOf(many+1))
		if n, e := b.add(t, "b", "c", "d", "e"); n != 4 || e != api.OK {
			t.Errorf("Add: %d, %d", n, e)
		}
		b.commit(t)
	}
}

// P11.2: a table that can't be read, and what stands in its way.
func TestInTheWay(t *testing.T) {
	one := recordText("a")
	for _, c := range []struct {
		what      string
		l         []plant
		up        int
		nothing   bool
		open, add api.Errno
	}{
		{"nothing", nil, 0, true, api.OK, api.OK},
		{"a file at the table", []plant{dir("db"), file("db/log", one)}, 0, false, api.ErrType, 0},
		{"a link at the table", []plant{dir("e"), file("e/r000000", one), dir("db"), link("db/log", "/e")}, 0, false, api.ErrType, 0},
		{"a link at the table that leads nowhere", []plant{dir("db"), link("db/log", "none")}, 0, false, api.ErrType, 0},
		{"a file at /db", []plant{file("db", one)}, 0, true, api.OK, api.ErrType},
		{"a link at /db", []plant{dir("e"), dir("e/log"), file("e/log/r000000", one), link("db", "e")}, 0, true, api.OK, api.ErrType},
		{"a directory at the first record", []plant{dir("db"), dir("db/log"), dir("db/log/r000000")}, 0, false, api.ErrSum, 0},
		{"another table", []plant{dir("db"), dir("db/logs"), file("db/logs/r000000", "x"), file("r000000", "x"), file("db/r000000", "x")}, 0, true, api.OK, api.OK},
	} {
		for _, committed := range []bool{false, true} {
			b := opened(t, 20)
			b.plant(t, c.l...)
			if committed {
				b.commit(t)
			}
			if n, ok := Whole(b.x); n != c.up || ok != c.nothing {
				t.Errorf("%s: Whole: %d, %t", c.what, n, ok)
			}
			errs(t, c.what+": Open", b.reopen(t), c.open)
			if c.open == api.OK {
				n, e := b.add(t, "a", "b")
				errs(t, c.what+": Add", e, c.add)
				if (n == 2) != (e == api.OK) {
					t.Errorf("%s: Add: %d", c.what, n)
				}
			}
			b.commit(t)
		}
	}
}

// P11.2: a chain whose table can't be read any more still has what it had, and
// Add has the table's error.
func TestUnread(t *testing.T) {
	for what, l := range map[string][]plant{"a file at the table": {file("db/log", "x")}, "a link at /db": {link("db", "x")}} {
		b := opened(t, 20)
		b.add(t, "a", "b")
		b.remove(t, "db/log/r000000", "db/log/r000001", "db/log")
		if what != "a file at the table" {
			b.remove(t, "db")
		}
		b.plant(t, l...)
		b.tells(t, b.h)
		b.add(t)
		if n, e := b.h.Add([]byte("c"), nil); n != 0 || e != api.ErrType {
			t.Errorf("%s: Add: %d, %d", what, n, e)
		}
		b.tells(t, b.h)
		b.alike(t, what)
	}
	b := opened(t, 20) // a change that is over
	b.add(t, "a", "b")
	h, x, want := b.h, b.x, b.l
	b.commit(t)
	if n, e := h.Add([]byte("c"), nil); n != 0 || e == api.OK {
		t.Errorf("over: Add: %d, %d", n, e)
	}
	Whole(x)
	Open(x)
	same(t, h.All(), want)
	if got, e := h.Get(1); string(got) != "b" || e != api.OK || h.Len() != 2 || h.Head() != headOf("a", "b") {
		t.Errorf("over: Get: %q, %d, Len: %d, Head: %x", got, e, h.Len(), h.Head())
	}
	b.tells(t, b.h)
}

// P11.2, P11.3: a tree without room in the midst of an Add: how many were added,
// and the rest once there is room.
func TestNoNode(t *testing.T) {
	for free := range 7 {
		b := opened(t, 10)
		for i := 1; i < 10-free; i++ {
			b.plant(t, file(fmt.Sprint("f", i), ""))
		}
		l := []string{"a", "b", "c", "d", "e"}
		many := max(free-2, 0) // two are for the directories
		want := api.ErrFull
		if many >= len(l)-1 {
			l = l[:many]
			want = api.OK
		}
		if n, e := b.add(t, l...); n != many || e != want {
			t.Errorf("%d are free: Add: %d, %d; want %d, %d", free, n, e, many, want)
		}
		if n, ok := Whole(b.x); n != many || !ok {
			t.Errorf("%d are free: Whole: %d, %t", free, n, ok)
		}
		if n, e := b.add(t, "x"); n != 0 || e != api.ErrFull {
			t.Errorf("%d are free: Add: %d, %d", free, n, e)
		}
		b.commit(t)
		for i := 1; i < 10-free && i < 4; i++ {
			b.remove(t, fmt.Sprint("f", i))
		}
		b.add(t, "y", "z")
		b.commit(t)
	}
}

// P11.2, P11.3: a directory without room for one name more.
func TestFullDirectory(t *testing.T) {
	b := opened(t, 80)
	var l []string
	for i := range 50 {
		l = append(l, fmt.Sprint(i))
	}
	many, e := b.add(t, l...)
	if many < 20 || many == len(l) || e != api.ErrFull {
		t.Fatalf("Add: %d, %d", many, e)
	}
	for range 2 {
		if n, e := b.add(t, "x", "y"); n != 0 || e != api.ErrFull {
			t.Errorf("Add: %d, %d", n, e)
		}
		b.add(t)
		if n, ok := Whole(b.x); n != many || !ok {
			t.Errorf("Whole: %d, %t", n, ok)
		}
		b.commit(t)
	}
}

// P11.3: what is added through one chain of a table stands behind what was added
// through another one, and nothing of that changes.
func TestTwoChains(t *testing.T) {
	b := opened(t, 40)
	b.add(t, "a")
	one := b.h
	two, e := Open(b.x)
	errs(t, "Open", e, api.OK)
	three, e := Open(tableOf(t, b.c, "log"))
	errs(t, "Open", e, api.OK)
	for i := range 12 {
		b.h = []*Chain{two, one, three, three, one, two}[i%6]
		if n, e := b.add(t, lots()[:i%4]...); n != i%4 || e != api.OK {
			t.Errorf("Add: %d, %d", n, e)
		}
	}
	for _, h := range []*Chain{one, two, three} {
		b.tells(t, h)
	}
	b.commit(t)
	if len(b.l) != 19 || b.l[0] != "a" {
		t.Errorf("there are %.99q", b.l)
	}
	// Each of the calls by itself.
	for what, ask := range map[string]func(h *Chain) bool{
		"Len":  func(h *Chain) bool { return h.Len() == 21 },
		"Head": func(h *Chain) bool { return h.Head() == headOf(append(slices.Clone(b.l), "x", "y")...) },
		"Get":  func(h *Chain) bool { x, e := h.Get(20); return string(x) == "y" && e == api.OK },
		"All":  func(h *Chain) bool { return len(h.All()) == 21 },
		"Add":  func(h *Chain) bool { n, e := h.Add([]byte("z")); return n == 1 && e == api.OK && h.Len() == 22 },
	} {
		b.begin(t)
		h := b.h
		b.reopen(t)
		b.h.Add(bytesOf("x", "y")...)
		if !ask(h) {
			t.Errorf("%s doesn't tell what another chain added", what)
		}
		if n, ok := Whole(b.x); n < 21 || !ok {
			t.Errorf("%s: Whole: %d, %t", what, n, ok)
		}
	}
}

// P11.3: tables don't touch one another, nor do changes; what else is there stays
// as it is.
func TestBeside(t *testing.T) {
	b := opened(t, 40)
	b.plant(t, others()...)
	b.plant(t, dir("db/ann"), file("db/ann/r000000", "i1;"), file("f", "f"))
	b.add(t, "a", "b")
	b.plant(t, dir("db/more"), record(2, recordText("a", "b", "c")))
	x, e := Open(tableOf(t, b.c, "more"))
	errs(t, "Open", e, api.OK)
	if n, e := x.Add([]byte("c")); n != 1 || e != api.OK || x.Head() != headOf("c") {
		t.Errorf("Add: %d, %d", n, e)
	}
	errs(t, "Put", tableOf(t, b.o, "more").Put("r000000", codec.Of(codec.Text("c"), codec.Text(string(unhex(t, hexed(headOf("c"))))))), api.OK)
	b.alike(t, "another table")
	b.tells(t, b.h)
	one := b.h
	b.begin(t)
	if n, ok := Whole(b.x); n != 0 || !ok {
		t.Errorf("another change: %d, %t", n, ok)
	}
	b.add(t, "d")
	same(t, one.All(), []string{"a", "b", "c"})
	b.tells(t, b.h)
}

// lists are all lists of at most four of some records.
func lists() [][]string {
	all := [][]string{nil}
	for from, n := 0, 0; n < 4; n++ {
		to := len(all)
		for _, l := range all[from:to] {
			for _, b := range []string{"", "\x00", "a", "b", "aa"} {
				all = append(all, append(slices.Clone(l), b))
			}
		}
		from = to
	}
	return all
}

// P11.3: two lists of records that aren't the same have other heads; the chain
// that is opened again has the same head and the same records.
func TestHeads(t *testing.T) {
	met := map[[32]byte][]string{}
	for i, l := range lists() {
		head := Start()
		if marks := Marks(bytesOf(l...)...); len(marks) > 0 {
			head = marks[len(marks)-1]
		}
		if head != headOf(l...) {
			t.Errorf("the head of %q: %x", l, head)
		}
		if x, there := met[head]; there {
			t.Errorf("%q and %q have one head", l, x)
		}
		met[head] = l
		if i%19 > 0 {
			continue
		}
		b := opened(t, 10)
		b.add(t, l...)
		if b.h.Head() != head {
			t.Errorf("Head of %q: %x", l, b.h.Head())
		}
		b.commit(t)
		if b.h.Head() != head || !slices.Equal(b.l, l) {
			t.Errorf("opened again: %q, %x; want %q", b.l, b.h.Head(), l)
		}
	}
	if len(met) != 1+5+25+125+625 {
		t.Errorf("%d lists", len(met))
	}
}

// P11.2, P11.3: a nil table and a nil chain, and such as nobody opened.
func TestNobody(t *testing.T) {
	for what, x := range map[string]*table.Table{"nil": nil, "zero": {}} {
		if h, e := Open(x); h != nil || e != api.ErrState {
			t.Errorf("%s: Open: %v, %d", what, h, e)
		}
		if n, ok := Whole(x); n != 0 || ok {
			t.Errorf("%s: Whole: %d, %t", what, n, ok)
		}
	}
	for what, h := range map[string]*Chain{"nil": nil, "zero": {}} {
		if h.Len() != 0 || h.Head() != headOf() || len(h.All()) != 0 {
			t.Errorf("%s: Len: %d, Head: %x, All: %q", what, h.Len(), h.Head(), h.All())
		}
		for _, l := range [][]string{{"a"}, {"a", "b"}, {strings.Repeat("x", 400)}} {
			if n, e := h.Add(bytesOf(l...)...); n != 0 || e != api.ErrState {
				t.Errorf("%s: Add: %d, %d", what, n, e)
			}
		}
		want := []api.Errno{api.ErrState, api.ErrState, api.ErrState}
		if h != nil {
			want = []api.Errno{api.OK, api.ErrLong, api.ErrNone}
		}
		if n, e := h.Add(); n != 0 || e != want[0] {
			t.Errorf("%s: Add of none: %d, %d", what, n, e)
		}
		if n, e := h.Add(nil, make([]byte, 401)); n != 0 || e != want[1] {
			t.Errorf("%s: Add of too many bytes: %d, %d", what, n, e)
		}
		for _, no := range []int{-1, 0, 1, 1<<63 - 1} {
			if got, e := h.Get(no); got != nil || e != want[2] {
				t.Errorf("%s: Get: %q, %d", what, got, e)
			}
		}
	}
}

// What the model takes for a record is what it makes of one.
func TestModel(t *testing.T) {
	for no := range lots() {
		l := lots()[:no+1]
		if got, ok := recordIn([]byte(recordText(l...)), l[:no]...); !ok || got != l[no] {
			t.Errorf("%.99q: %.99q, %t", l[no], got, ok)
		}
	}
	for _, data := range wrongRecords() {
		if got, ok := recordIn([]byte(data), "a"); ok {
			t.Errorf("%.99q: %.99q", data, got)
		}
	}
}
