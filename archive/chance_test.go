package archive

import (
	"bytes"
	"fmt"
	"math/rand"
	"slices"
	"strings"
	"testing"

	"creel/api"
)

// picker picks by chance.
type picker struct{ *rand.Rand }

// rarely is true once in so many times.
func (r picker) rarely(n int) bool { return r.Intn(n) == 0 }

// pick picks one.
func pick[T any](r picker, l ...T) T { return l[r.Intn(len(l))] }

// bytes are up to so many.
func (r picker) bytes(most int) []byte {
	b := make([]byte, r.Intn(most+1))
	r.Read(b)
	return b
}

// path is one in a directory that was there, or of any names.
func (r picker) path(l []Entry) []string {
	var p []string
	if len(l) > 0 && !r.rarely(3) {
		p = slices.Clone(pick(r, l...).Path)
	}
	if r.rarely(40) {
		return p
	}
	name := pick(r, "a", "b", "c", "bin", "x.y", "-", strings.Repeat("n", 24))
	if r.rarely(60) {
		name = pick(r, "", ".", "..", "A", "a/b", strings.Repeat("n", 25))
	}
	return append(p, name)
}

// link is a link's bytes.
func (r picker) link() []byte {
	var l []string
	for range 1 + r.Intn(4) {
		l = append(l, pick(r, ".", "..", "..", "a", "b", "bin"))
	}
	return []byte(pick(r, "", "", "", "/") + strings.Join(l, "/"))
}

// entry is one that may stand behind those that were there, right or not.
func (r picker) entry(l []Entry) Entry {
	x := Entry{r.path(l), pick(r, 0, 0, 1, 1, 1, 2), pick(r, 0o644, 0o755, 0o700, 0o1755, 0), nil}
	switch x.Kind {
	case 0:
		x.Data = r.bytes(pick(r, 0, 20, 20, 512))
	case 2:
		x.Data = r.link()
	}
	if r.rarely(40) {
		x.Kind = pick(r, -1, 3, 4, 255, 256, r.Int())
	}
	if r.rarely(40) {
		x.Mode = pick(r, 0o777, 0o4755, 0o2755, 0o664, -1, 4096, 65536, r.Intn(4096))
	}
	if r.rarely(40) {
		x.Data = pick(r, nil, []byte("x"), []byte(".."), r.bytes(600), make([]byte, 513))
	}
	return x
}

// entries are some, most of them right ones: of those that are refused only some
// stay.
func (r picker) entries(most int) []Entry {
	var l []Entry
	for range r.Intn(most + 1) {
		x := r.entry(l)
		if why(x, l) == api.OK || r.rarely(20) {
			l = append(l, x)
		}
	}
	return l
}

// hurt are bytes with some of them other ones, missing, or too many.
func (r picker) hurt(b []byte) []byte {
	b = bytes.Clone(b)
	for range 1 + r.Intn(2) {
		i := r.Intn(len(b) + 1)
		switch r.Intn(5) {
		case 0:
			b = b[:i]
		case 1:
			b = slices.Insert(b, i, r.bytes(9)...)
		case 2:
			b = slices.Delete(b, i, min(i+r.Intn(9), len(b)))
		case 3:
			if i < len(b) {
				b[i] ^= 1 << r.Intn(8)
			}
		default:
			if len(b) > 4 {
				b[4] = byte(r.Intn(45))
			}
		}
	}
	return b
}

// safe wants nothing of what was decoded to lead out, to be setuid or setgid, or
// to be written by others.
func safe(t *testing.T, l []Entry) {
	t.Helper()
	for _, x := range l {
		if x.Mode&0o6000 > 0 || x.Kind != 2 && x.Mode&0o22 > 0 || x.Mode < 0 || x.Mode > 4095 {
			t.Errorf("%q: mode %o", x.Path, x.Mode)
		}
		if x.Kind == 2 && outside(len(x.Path)-1, string(x.Data)) {
			t.Errorf("%q leads out: %q", x.Path, x.Data)
		}
	}
}

// outside tells whether a link that stands so many directories deep leads out
// anywhere on its way.
func outside(deep int, to string) bool {
	out := strings.HasPrefix(to, "/")
	for name := range strings.SplitSeq(to, "/") {
		switch name {
		case ".":
		case "..":
			deep--
		default:
			deep++
		}
		out = out || deep < 0
	}
	return out
}

// back wants entries that nothing is wrong with to be decoded as they were, and
// encoded as that was.
func back(t *testing.T, l []Entry) {
	t.Helper()
	b, e := Encode(l...)
	if e != api.OK {
		t.Fatalf("Encode: %d", e)
	}
	got, n, e := Decode(b)
	if e != api.OK || n != len(l) || !Same(got, l) || shown(got) != shown(l) {
		t.Errorf("Decode of what was encoded: %s, %d, %d; want %s", shown(got), n, e, shown(l))
	}
	again, e := Encode(got...)
	if e != api.OK || !bytes.Equal(again, b) {
		t.Errorf("Encode of what was decoded: %x, %d; want %x", again, e, b)
	}
	safe(t, got)
}

// P12.1, P12.3: lists by chance, by the model; each error is met.
func TestLists(t *testing.T) {
	r := picker{rand.New(rand.NewSource(12))}
	met := map[api.Errno]int{}
	for range 6000 {
		l := r.entries(pick(r, 5, 20, 60, 100))
		held(t, "by chance", l)
		_, e := modelCheck(l)
		met[e]++
		if e == api.OK {
			back(t, l)
		}
	}
	for _, e := range []api.Errno{api.OK, api.ErrPath, api.ErrType, api.ErrMode, api.ErrForm, api.ErrLong, api.ErrTwice, api.ErrNone} {
		if met[e] < 10 {
			t.Errorf("chance has met %d so often: %d", e, met[e])
		}
	}
}

// P12.1, P12.3: bytes by chance, by the model; each error is met; what is decoded
// is encoded as it was.
func TestHurt(t *testing.T) {
	r := picker{rand.New(rand.NewSource(13))}
	met := map[api.Errno]int{}
	for range 20000 {
		l := r.entries(8)
		if slices.ContainsFunc(l, func(x Entry) bool { return !writable(x) }) {
			continue
		}
		b := raw(l...)
		if !r.rarely(4) {
			b = r.hurt(b)
		}
		got, e := heldBytes(t, "by chance", b)
		met[e]++
		if e != api.OK {
			continue
		}
		back(t, got)
		if again, _ := Encode(got...); !bytes.Equal(again, b) {
			t.Errorf("Encode of what was decoded: %x; want %x", again, b)
		}
	}
	for _, e := range []api.Errno{api.OK, api.ErrPath, api.ErrType, api.ErrMode, api.ErrForm, api.ErrLong, api.ErrTwice, api.ErrNone, api.ErrEnd, api.ErrSum} {
		if met[e] < 10 {
			t.Errorf("chance has met %d so often: %d", e, met[e])
		}
	}
}

// P12.1: all that is asked of one entry, each choice of its parts with each of
// the others, by the model.
func TestAllParts(t *testing.T) {
	text, dirs := deep(160)
	long, _ := deep(161)
	ahead := append(dirs, dir("/d"), file("/f", "x"), link("/l", "d"))
	var paths [][]string
	for _, text := range []string{"/", "/x", "/d", "/f", "/d/x", "/f/x", "/l/x", "/none/x", "/d/.", "/X", text, long} {
		paths = append(paths, names(text))
	}
	paths = append(paths, []string{""}, []string{"d/x"})
	datas := [][]byte{nil, []byte("x"), []byte("."), []byte(".."), []byte("../.."), []byte("/d"), []byte("/"), []byte("\x00"), []byte(linkOf(160)), []byte(linkOf(161)), []byte(linkOf(512)), []byte(linkOf(513)), bytes.Repeat([]byte{1}, 512), bytes.Repeat([]byte{1}, 513)}
	for _, p := range paths {
		for _, kind := range []int{-1, 0, 1, 2, 3, 256} {
			for _, mode := range []int{-1, 0, 0o755, 0o777, 0o2000, 0o4000, 4095, 4096} {
				for _, data := range datas {
					held(t, "all parts", append(slices.Clone(ahead), Entry{p, kind, mode, data}))
				}
			}
		}
	}
}

// told is all that the calls answer of entries, and of bytes, as a text.
func told(l []Entry, b []byte) string {
	var s []string
	add := func(x ...any) { s = append(s, fmt.Sprintln(x...)) }
	n, e := Check(l...)
	add(n, e)
	coded, e := Encode(l...)
	add(coded, e)
	read, n, e := Decode(b)
	add(shown(read), n, e)
	for _, x := range l {
		found, e := Find(l, x.Path...)
		add(shown([]Entry{found}), e)
	}
	n, size := Sizes(l...)
	add(n, size, Digests(l...), Same(l, read))
	return strings.Join(s, "")
}

// P2: the same calls have the same answers, whatever was called between.
func TestSameAnswers(t *testing.T) {
	r := picker{rand.New(rand.NewSource(2))}
	for range 300 {
		l, m := r.entries(20), r.entries(50)
		b, c := raw(m...), r.hurt(raw(l...))
		first := told(l, b)
		told(m, c)
		if told(l, b) != first {
			t.Errorf("not the same twice: %s", shown(l))
		}
	}
}
