package archive

import (
	"bytes"
	"slices"
	"testing"

	"creel/api"
)

// roomy are entries with room behind each of their lists, in a list with room.
func roomy(l []Entry) []Entry {
	all := make([]Entry, 0, len(l)+5)
	for _, x := range l {
		x.Path = append(make([]string, 0, len(x.Path)+5), x.Path...)
		x.Data = append(make([]byte, 0, len(x.Data)+20), x.Data...)
		all = append(all, x)
	}
	return all
}

// scrub writes over an entry, in all the room of its lists.
func scrub(x Entry) {
	for i := range x.Path[:cap(x.Path)] {
		x.Path[:cap(x.Path)][i] = "scrub"
	}
	for i := range x.Data[:cap(x.Data)] {
		x.Data[:cap(x.Data)][i] = '#'
	}
}

// scrubAll writes over all entries of a list, and over it.
func scrubAll(l []Entry) {
	for i, x := range l {
		scrub(x)
		l[i] = Entry{[]string{"scrub"}, 7, 7, []byte("#")}
	}
}

// untouched wants entries to be as they were, with nothing in the room behind
// them.
func untouched(t *testing.T, what string, l, want []Entry) {
	t.Helper()
	if shown(l) != shown(want) {
		t.Errorf("%s changes what was handed in: %s", what, shown(l))
	}
	for _, x := range l {
		if slices.ContainsFunc(x.Path[len(x.Path):cap(x.Path)], func(s string) bool { return s != "" }) || bytes.Count(x.Data[len(x.Data):cap(x.Data)], []byte{0}) != cap(x.Data)-len(x.Data) {
			t.Errorf("%s writes behind what was handed in: %v", what, x)
		}
	}
	for _, x := range l[len(l):cap(l)] {
		if x.Path != nil || x.Kind != 0 || x.Mode != 0 || x.Data != nil {
			t.Errorf("%s writes behind the list: %v", what, x)
		}
	}
}

// wrong is a list whose last entry is refused.
func wrong() []Entry { return append(tree(), file("/none/x", "x")) }

// P12.3: entries that are handed in are neither changed nor kept.
func TestHandedIn(t *testing.T) {
	for _, want := range [][]Entry{nil, tree(), wrong(), files(40), files(41)} {
		l := roomy(want)
		Check(l...)
		untouched(t, "Check", l, want)
		b, e := Encode(l...)
		untouched(t, "Encode", l, want)
		Same(l, l)
		untouched(t, "Same", l, want)
		Sizes(l...)
		untouched(t, "Sizes", l, want)
		d := Digests(l...)
		untouched(t, "Digests", l, want)
		p := append(make([]string, 0, 5), "bin", "run")
		x, _ := Find(l, p...)
		untouched(t, "Find", l, want)
		if !slices.Equal(p[:5], []string{"bin", "run", "", "", ""}) {
			t.Errorf("Find changes the path: %q", p[:5])
		}
		text := shown([]Entry{x})
		sums := slices.Clone(d)
		scrubAll(l)
		if shown([]Entry{x}) != text || !slices.Equal(d, sums) || e == api.OK && !bytes.Equal(b, raw(want...)) {
			t.Error("a change of what was handed in changes an answer")
		}
		if again, _ := Encode(want...); !bytes.Equal(again, b) {
			t.Errorf("Encode, once more: %x; want %x", again, b)
		}
	}
}

// P12.3: bytes that are handed in are neither changed nor kept, and what is
// decoded is new memory, each part by itself.
func TestDecoded(t *testing.T) {
	want := append(tree(), dir("/no"), file("/no/bytes", ""))
	right := raw(want...)
	b := append(make([]byte, 0, len(right)+50), right...)
	l, _, e := Decode(b)
	if e != api.OK || !bytes.Equal(b, right) || bytes.Count(b[len(b):cap(b)], []byte{0}) != 50 {
		t.Errorf("Decode changes what was handed in: %d, %x", e, b[:cap(b)])
	}
	again, _, _ := Decode(b)
	for i := range b[:cap(b)] {
		b[:cap(b)][i] = '#'
	}
	if shown(l) != shown(want) || shown(again) != shown(want) {
		t.Error("a change of the bytes changes what was decoded")
	}
	for i, x := range l {
		scrub(x)
		if shown(l[i+1:]) != shown(want[i+1:]) {
			t.Errorf("a change of entry %d changes another", i)
		}
		path := slices.Clone(again[i].Path)
		scrub(Entry{Data: again[i].Data})
		if !slices.Equal(again[i].Path, path) {
			t.Errorf("a change of entry %d's bytes changes its path", i)
		}
	}
	third, _, _ := Decode(right)
	if shown(third) != shown(want) {
		t.Errorf("Decode, once more: %s", shown(third))
	}
	for n := range right { // beside an error, too
		c := bytes.Clone(right)
		c[n] ^= 1
		was := bytes.Clone(c)
		Decode(c)
		if !bytes.Equal(c, was) {
			t.Errorf("Decode changes what was handed in: %x", c)
		}
	}
}

// P12.3: what else is answered is new memory.
func TestAnswered(t *testing.T) {
	want := append(tree(), Entry{Path: []string{"empty"}, Data: make([]byte, 0, 9)})
	l := roomy(want)
	for _, x := range want {
		got, _ := Find(l, x.Path...)
		again, _ := Find(l, x.Path...)
		scrub(got)
		untouched(t, "a change of what was found", l, want)
		if shown([]Entry{again}) != shown([]Entry{x}) {
			t.Errorf("a change of what was found changes what was found again: %v", again)
		}
	}
	b, _ := Encode(l...)
	other, _ := Encode(l...)
	for i := range b[:cap(b)] {
		b[:cap(b)][i] = '#'
	}
	untouched(t, "a change of what was encoded", l, want)
	if !bytes.Equal(other, raw(want...)) {
		t.Errorf("a change of what was encoded changes what was encoded again: %x", other)
	}
	d, sums := Digests(l...), Digests(l...)
	clear(d[:cap(d)])
	if !slices.Equal(sums, Digests(want...)) {
		t.Errorf("a change of digests changes others: %x", sums)
	}
}
