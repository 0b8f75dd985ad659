package archive

import (
	"bytes"
	"crypto/sha256"
	"encoding/hex"
	"fmt"
	"math"
	"slices"
	"strings"
	"testing"

	"creel/api"
)

// names are those of a path's text.
func names(text string) []string {
	return strings.FieldsFunc(text, func(r rune) bool { return r == '/' })
}

// file, dir and link are entries that nothing is wrong with.
func file(text, data string) Entry { return Entry{names(text), 0, 0o644, []byte(data)} }
func dir(text string) Entry        { return Entry{Path: names(text), Kind: 1, Mode: 0o755} }
func link(text, to string) Entry   { return Entry{names(text), 2, 0o777, []byte(to)} }

// files are so many.
func files(many int) []Entry {
	var l []Entry
	for i := range many {
		l = append(l, file(fmt.Sprint("/f", i), fmt.Sprint("bytes ", i)))
	}
	return l
}

// tree is of all kinds, in directories of some depths.
func tree() []Entry {
	return []Entry{
		dir("/bin"), file("/bin/run", "code"), link("/bin/go", "run"), file("/doc", ""),
		dir("/bin/lib"), dir("/bin/lib/a"), file("/bin/lib/a/b", "\x00\xff"), link("/l", "bin/lib"), link("/bin/lib/a/out", "../../../doc"),
	}
}

// deep is a path's text of eight names, and of so many bytes, and the
// directories in it.
func deep(size int) (string, []Entry) {
	text, l := "", []Entry(nil)
	for i := range 7 {
		text += "/" + strings.Repeat("x", 18) + string(rune('a'+i))
		l = append(l, dir(text))
	}
	return text + "/" + strings.Repeat("y", size-len(text)-1), l
}

// put is a list with an entry put in at a place.
func put(l []Entry, no int, x Entry) []Entry { return slices.Insert(slices.Clone(l), no, x) }

func unhex(t *testing.T, s string) []byte {
	t.Helper()
	b, e := hex.DecodeString(strings.ReplaceAll(s, " ", ""))
	if e != nil {
		t.Fatal(e)
	}
	return b
}

// P12.1: archives with digests that were worked out elsewhere.
func TestBytes(t *testing.T) {
	for _, c := range []struct {
		l    []Entry
		want string
	}{
		{nil, "4352454c 00"},
		{[]Entry{{names("/a"), 0, 0o644, []byte("x")}}, "4352454c 01 00 01a4 02 2f61 0001 78 74217b85aac8d8d7"},
		{[]Entry{{names("/d"), 1, 0o755, nil}}, "4352454c 01 01 01ed 02 2f64 0000 b92db4ff5ee8d132"},
		{[]Entry{{names("/l"), 2, 0o777, []byte(".")}}, "4352454c 01 02 01ff 02 2f6c 0001 2e 465b52ab24a6e509"},
		{
			[]Entry{{names("/bin"), 1, 0o755, nil}, {names("/bin/run"), 0, 0o1755, []byte("code")}, {names("/bin/go"), 2, 0o1777, []byte("../doc")}, {names("/doc"), 0, 0, []byte{0, 255, 10}}},
			"4352454c 04 01 01ed 04 2f62696e 0000 659314e5fcc8c660 00 03ed 08 2f62696e2f72756e 0004 636f6465 f1fa7b56c5571c42" +
				"02 03ff 07 2f62696e2f676f 0006 2e2e2f646f63 249ae1a38278298f 00 0000 04 2f646f63 0003 00ff0a bd404acb9e23e7ee",
		},
	} {
		want := unhex(t, c.want)
		b, e := Encode(c.l...)
		if e != api.OK || !bytes.Equal(b, want) {
			t.Errorf("Encode of %d: %x, %d; want %x", len(c.l), b, e, want)
		}
		decodes(t, c.want, want, c.l, len(c.l), api.OK)
	}
}

// P12.1: an archive that has all that it may have, by the digest of its bytes.
func TestGreatest(t *testing.T) {
	text, l := deep(160)
	for i := range l {
		l[i].Mode = 0o700
	}
	last := strings.Repeat("x", 18) + "h"
	data := make([]byte, 512)
	for i := range data {
		data[i] = byte(i)
	}
	l = append(l, Entry{names(text[:141] + last), 0, 0o1755, data})
	for i := range 32 {
		l = append(l, Entry{names(fmt.Sprint("/f", i)), 0, 0o600, bytes.Repeat([]byte("z"), 512-i)})
	}
	b, e := Encode(l...)
	if got := fmt.Sprintf("%x", sha256.Sum256(b)); e != api.OK || len(b) != 17803 || got != "5e3b6e60b3792eae4466e2bcabd45c792dff8d937927760ea9e34fa027355668" {
		t.Errorf("Encode: %d bytes, %s, %d", len(b), got, e)
	}
	wants(t, "the greatest", l, 40, api.OK)
}

// P12.1: how many entries an archive has; too many are told ahead of what is
// wrong with them.
func TestCount(t *testing.T) {
	for _, many := range []int{0, 1, 2, 39, 40} {
		wants(t, fmt.Sprint(many, " entries"), files(many), many, api.OK)
	}
	for _, many := range []int{41, 42, 80, 255, 256, 257, 1000} {
		l := files(many)
		wants(t, fmt.Sprint(many, " entries"), l, 40, api.ErrLong)
		for _, no := range []int{0, 39, 40, many - 1} {
			wants(t, fmt.Sprint(many, " entries, one wrong"), put(l[:many-1], no, Entry{}), 40, api.ErrLong)
		}
	}
	wants(t, "40 entries, the last one wrong", put(files(39), 39, Entry{}), 39, api.ErrPath)
	if n, e := Check(make([]Entry, 1<<20)...); n != 40 || e != api.ErrLong {
		t.Errorf("Check of very many: %d, %d", n, e)
	}
}

// alone wants an entry to be refused so, alone and behind, ahead of and among
// others.
func alone(t *testing.T, what string, x Entry, want api.Errno) {
	t.Helper()
	for _, l := range [][]Entry{nil, tree(), files(5)} {
		for no := range len(l) + 1 {
			all, wantNo := put(l, no, x), no
			if want == api.OK {
				wantNo = len(all)
			}
			wants(t, what, all, wantNo, want)
		}
	}
}

// P12.1: kinds.
func TestKinds(t *testing.T) {
	for kind, want := range map[int]api.Errno{
		0: api.OK, 1: api.OK, 2: api.ErrPath, 3: api.ErrType, 4: api.ErrType, 5: api.ErrType, 255: api.ErrType,
		-1: api.ErrType, 256: api.ErrType, 257: api.ErrType, 1 << 32: api.ErrType, math.MinInt: api.ErrType, math.MaxInt: api.ErrType,
	} {
		alone(t, fmt.Sprint("kind ", kind), Entry{names("/k"), kind, 0o600, nil}, want)
	}
	alone(t, "a link", Entry{names("/k"), 2, 0o600, []byte("k")}, api.OK)
}

// P12.1: modes, of each kind.
func TestModes(t *testing.T) {
	for kind := range 3 {
		x := Entry{Path: names("/m"), Kind: kind}
		if kind == 2 {
			x.Data = []byte("bin")
		}
		for _, c := range []struct {
			modes []int
			want  [3]api.Errno
		}{
			{[]int{0, 1, 0o400, 0o444, 0o600, 0o644, 0o700, 0o755, 0o1000, 0o1755}, [3]api.Errno{}},
			{[]int{0o2, 0o20, 0o22, 0o6, 0o60, 0o666, 0o775, 0o757, 0o777, 0o1777, 0o1020}, [3]api.Errno{api.ErrMode, api.ErrMode, api.OK}},
			{[]int{0o4000, 0o2000, 0o6000, 0o4755, 0o2755, 0o4777, 0o3000, 4095, 0o6755}, [3]api.Errno{api.ErrMode, api.ErrMode, api.ErrMode}},
			{[]int{-1, -512, 4096, 4097, 4096 + 0o644, 8192, 65535, 65536, 65536 + 0o644, 1 << 32, math.MinInt, math.MaxInt}, [3]api.Errno{api.ErrMode, api.ErrMode, api.ErrMode}},
		} {
			for _, mode := range c.modes {
				x.Mode = mode
				alone(t, fmt.Sprintf("kind %d, mode %o", kind, mode), x, c.want[kind])
			}
		}
		for mode := -1; mode <= 4096; mode++ {
			x.Mode = mode
			held(t, fmt.Sprintf("kind %d, mode %o", kind, mode), []Entry{x})
		}
	}
}

// P12.1: how many bytes an entry has.
func TestLengths(t *testing.T) {
	for _, c := range []struct {
		size             int
		file, dir, links api.Errno
	}{
		{0, api.OK, api.OK, api.ErrPath}, {1, api.OK, api.ErrForm, api.OK}, {160, api.OK, api.ErrForm, api.OK}, {161, api.OK, api.ErrForm, api.ErrPath},
		{511, api.OK, api.ErrForm, api.ErrPath}, {512, api.OK, api.ErrForm, api.ErrPath}, {513, api.ErrLong, api.ErrForm, api.ErrLong},
		{514, api.ErrLong, api.ErrForm, api.ErrLong}, {768, api.ErrLong, api.ErrForm, api.ErrLong}, {65535, api.ErrLong, api.ErrForm, api.ErrLong}, {65536, api.ErrLong, api.ErrForm, api.ErrLong}, {1 << 20, api.ErrLong, api.ErrForm, api.ErrLong},
	} {
		what := fmt.Sprint(c.size, " bytes")
		alone(t, what, Entry{names("/s"), 0, 0o600, bytes.Repeat([]byte{7}, c.size)}, c.file)
		alone(t, what, Entry{names("/s"), 1, 0o700, make([]byte, c.size)}, c.dir)
		alone(t, what, Entry{names("/s"), 2, 0o700, []byte(linkOf(c.size))}, c.links)
	}
}

// linkOf is a link to what isn't far, of so many bytes.
func linkOf(size int) string {
	s := strings.Repeat("./", size/2)
	if size%2 == 0 {
		return strings.TrimSuffix(s, "./") + "ab"[:min(size, 2)]
	}
	return s + "a"
}

// P12.1: paths.
func TestPaths(t *testing.T) {
	right := []string{"a", "z", "0", "9", "-", "_", "...", ".a", "a.", "..a", "a..b", "x-1.y_2", strings.Repeat("n", 24)}
	for _, name := range right {
		for _, l := range [][]Entry{{file("/"+name, "x")}, {dir("/q"), file("/q/"+name, "x")}, {dir("/" + name), file("/"+name+"/q", "x")}} {
			wants(t, "a right name", l, len(l), api.OK)
		}
	}
	wrong := []string{"", ".", "..", "A", "a b", "a/b", "/", "/a", "a/", "//", "a\x00", "é", "\xff", "a\n", "..\x00", "../x", "a//b", strings.Repeat("n", 25), strings.Repeat("n", 161), strings.Repeat("n", 254), strings.Repeat("n", 255), strings.Repeat("n", 100000)}
	for _, name := range wrong {
		for _, p := range [][]string{{name}, {"bin", name}, {name, "bin"}, {"bin", name, "b"}, {name, name}} {
			x := Entry{Path: p, Mode: 0o600, Data: []byte("x")}
			want := []Entry{dir("/bin"), x}
			if n, e := Check(want...); n != 1 || e != api.ErrPath {
				t.Errorf("Check of %.99q: %d, %d", p, n, e)
			}
			if b, e := Encode(want...); b != nil || e != api.ErrPath {
				t.Errorf("Encode of %.99q: %.99q, %d", p, b, e)
			}
		}
	}
	for _, p := range [][]string{nil, {}} {
		for kind := range 3 {
			alone(t, "no names", Entry{p, kind, 0o600, nil}, api.ErrPath)
		}
	}
}

// P12.1: a list of names isn't a path though its text be one's, and would be read
// as another one.
func TestNamesInOne(t *testing.T) {
	for _, p := range [][]string{{"bin/x"}, {"bin", "lib/x"}, {"bin/lib", "x"}, {"bin/lib/x"}} {
		l := put(tree(), 6, Entry{p, 0, 0o600, nil})
		if n, e := Check(l...); n != 6 || e != api.ErrPath {
			t.Errorf("Check of %q: %d, %d", p, n, e)
		}
		if b, e := Encode(l...); b != nil || e != api.ErrPath {
			t.Errorf("Encode of %q: %q, %d", p, b, e)
		}
		decodes(t, "another path", raw(l...), put(tree(), 6, Entry{names(textOf(l[6])), 0, 0o600, nil}), 10, api.OK)
	}
}

// P12.1: how long a path's text is, and how many names it has.
func TestDeep(t *testing.T) {
	for _, size := range []int{142, 158, 159, 160, 161, 162, 164} {
		text, l := deep(size)
		want, no := api.OK, len(l)+1
		if size > 160 {
			want, no = api.ErrPath, len(l)
		}
		for kind := range 3 {
			x := Entry{names(text), kind, 0o500, nil}
			if kind == 2 {
				x.Data = []byte("..")
			}
			wants(t, fmt.Sprint("a path of ", size), append(slices.Clone(l), x), no, want)
		}
	}
	var l []Entry
	text := ""
	for i := range 8 {
		text += "/d"
		l = append(l, dir(text))
		wants(t, fmt.Sprint(i+1, " names"), l, i+1, api.OK)
	}
	for _, text := range []string{"/d/d/d/d/d/d/d/d/d", "/d/d/d/d/d/d/d/d/d/d", strings.Repeat("/d", 80), strings.Repeat("/d", 127)} {
		wants(t, "too many names", append(slices.Clone(l), file(text, "")), 8, api.ErrPath)
	}
}

// P12.1: a path's text in bytes that isn't a path's, of a right digest.
func TestTexts(t *testing.T) {
	text, dirs := deep(160)
	long, _ := deep(161)
	for _, c := range []struct {
		text string
		want api.Errno
	}{
		{"/x", api.OK}, {"/bin/x", api.OK}, {"/...", api.OK}, {text, api.OK}, {long, api.ErrPath},
		{"", api.ErrPath}, {"/", api.ErrPath}, {"x", api.ErrPath}, {"//", api.ErrPath}, {"//x", api.ErrPath}, {"/x/", api.ErrPath}, {"/bin//x", api.ErrPath},
		{"bin/x", api.ErrPath}, {"/.", api.ErrPath}, {"/..", api.ErrPath}, {"/../x", api.ErrPath}, {"../x", api.ErrPath}, {"/bin/../x", api.ErrPath}, {"/bin/./x", api.ErrPath}, {"/bin/..", api.ErrPath},
		{"/X", api.ErrPath}, {"/x y", api.ErrPath}, {"/x\x00", api.ErrPath}, {"\x00", api.ErrPath}, {"/é", api.ErrPath}, {"/x\n", api.ErrPath}, {" /x", api.ErrPath}, {"\\x", api.ErrPath},
		{"/" + strings.Repeat("n", 24), api.OK}, {"/" + strings.Repeat("n", 25), api.ErrPath}, {"/1/2/3/4/5/6/7/8/9", api.ErrPath}, {strings.Repeat("/", 255), api.ErrPath}, {strings.Repeat("/n", 127), api.ErrPath},
		{"/bin", api.ErrTwice}, {"/none/x", api.ErrNone},
	} {
		l := append(dirs, dir("/bin"))
		b := string(raw(l...)) + part(c.text, 0, 0o600, []byte("x"), eight(c.text, []byte("x")))
		all := append(slices.Clone(l), file(c.text, "x"))
		all[8].Mode = 0o600
		if c.want == api.OK {
			decodes(t, c.text, []byte("CREL\x09"+b[5:]), all, 9, api.OK)
		} else {
			decodes(t, c.text, []byte("CREL\x09"+b[5:]), nil, 8, c.want)
		}
	}
}

// P12.1: where links lead, from the directory they are in.
func TestLinks(t *testing.T) {
	dirs := []Entry{dir("/a"), dir("/a/b")}
	for _, c := range []struct {
		in   string
		good []string
		bad  []string
	}{
		{"", []string{".", "./.", "x", "a", "a/..", "a/b/../..", "a/../x", "...", "1/2/3/4/5/6/7/8", "l"}, []string{"..", "../x", "./..", "a/../..", "a/../../a", "a/b/../../..", "1/2/3/4/5/6/7/8/9", "1/2/3/4/5/6/7/8/9/.."}},
		{"/a", []string{".", "..", "../.", "../x", "../a", "b/../..", "../a/..", "1/2/3/4/5/6/7"}, []string{"../..", "../../x", "../y/../..", "b/../../..", "../../a", "1/2/3/4/5/6/7/8"}},
		{"/a/b", []string{".", "..", "../..", "../../.", "../../x", "../c/./d", "../../a/b"}, []string{"../../..", "../../../x", "../../../a", ".././../..", "../../a/../.."}},
	} {
		for _, to := range c.good {
			wants(t, c.in+" leads to "+to, append(dirs, link(c.in+"/l", to)), 3, api.OK)
		}
		for _, to := range append(c.bad, "", "/", "/a", "/a/b", "/.", "/..", "//", "//a", "/x/../..", "a/", "./", "../", "a//b", "A", "a b", "a\x00", "\x00", "é", "a\n", strings.Repeat("n", 25)) {
			wants(t, c.in+" leads to "+to, append(dirs, link(c.in+"/l", to)), 2, api.ErrPath)
		}
	}
	for _, x := range []Entry{file("/x", "/a"), file("/x", "../../.."), file("/a/x", "")} { // of files bytes aren't a link's
		wants(t, "a file", append(dirs, x), 3, api.OK)
	}
	_, l := deep(160)
	in := textOf(l[6])
	for to, want := range map[string]api.Errno{"x": api.OK, "x/y": api.ErrPath, "x/..": api.OK, "x/y/../..": api.ErrPath, strings.Repeat("../", 6) + "..": api.OK, strings.Repeat("../", 7) + "..": api.ErrPath} {
		no := 7
		if want == api.OK {
			no = 8
		}
		wants(t, "deep down to "+to, append(slices.Clone(l), link(in+"/l", to)), no, want)
	}
}

// P12.1: no two are of one path, whatever they are.
func TestTwice(t *testing.T) {
	for _, text := range []string{"/x", "/d/x"} {
		kinds := []Entry{file(text, ""), file(text, "other"), dir(text), link(text, "x")}
		for _, first := range kinds {
			for _, second := range kinds {
				wants(t, "twice", []Entry{dir("/d"), first, second}, 2, api.ErrTwice)
				wants(t, "twice", []Entry{dir("/d"), first, file("/y", ""), dir("/d/z"), second, first}, 4, api.ErrTwice)
			}
		}
	}
	wants(t, "names that are alike", []Entry{dir("/x"), file("/x/x", ""), dir("/y"), file("/y/x", ""), file("/xx", ""), file("/x.", "")}, 6, api.OK)
}

// P12.1: each entry is behind the directory that it is in.
func TestHomes(t *testing.T) {
	for _, c := range []struct {
		what string
		l    []Entry
		no   int
		want api.Errno
	}{
		{"the root", []Entry{file("/x", "")}, 1, api.OK},
		{"there", []Entry{dir("/d"), file("/d/x", "")}, 2, api.OK},
		{"there, not just ahead", []Entry{dir("/d"), file("/e", ""), dir("/f"), file("/d/x", "")}, 4, api.OK},
		{"two deep", []Entry{dir("/d"), dir("/d/e"), link("/d/e/l", "x")}, 3, api.OK},
		{"not there", []Entry{file("/d/x", "")}, 0, api.ErrNone},
		{"a directory not there", []Entry{dir("/d/e")}, 0, api.ErrNone},
		{"another one there", []Entry{dir("/e"), file("/d/x", "")}, 1, api.ErrNone},
		{"one there that begins so", []Entry{dir("/dd"), dir("/d.x"), file("/d/x", "")}, 2, api.ErrNone},
		{"behind it", []Entry{file("/d/x", ""), dir("/d")}, 0, api.ErrNone},
		{"a directory behind it", []Entry{dir("/d/e"), dir("/d")}, 0, api.ErrNone},
		{"itself", []Entry{dir("/d/d")}, 0, api.ErrNone},
		{"the one ahead of it there alone", []Entry{dir("/d"), file("/d/e/x", "")}, 1, api.ErrNone},
		{"its last name there alone", []Entry{dir("/e"), file("/d/e/x", "")}, 1, api.ErrNone},
		{"a file", []Entry{file("/d", ""), file("/d/x", "")}, 1, api.ErrNone},
		{"a link", []Entry{link("/d", "."), file("/d/x", "")}, 1, api.ErrNone},
		{"a link to a directory", []Entry{dir("/e"), link("/d", "e"), file("/d/x", "")}, 2, api.ErrNone},
		{"a file in a directory", []Entry{dir("/d"), file("/d/e", ""), dir("/d/e/x")}, 2, api.ErrNone},
	} {
		wants(t, c.what, c.l, c.no, c.want)
	}
}

// P12.1: of several things that are wrong with one entry the first is told, by
// the chapter's order.
func TestFirstOfOne(t *testing.T) {
	l := []Entry{dir("/d"), file("/f", "")}
	bad := strings.Repeat("\x00", 513)
	for _, c := range []struct {
		x    Entry
		want api.Errno
	}{
		{Entry{[]string{"d", ".."}, 7, 0o6777, []byte(bad)}, api.ErrPath},
		{Entry{[]string{"f", "f"}, 7, 0o6777, []byte(bad)}, api.ErrType},
		{Entry{[]string{"d"}, 7, 0o6777, []byte(bad)}, api.ErrType},
		{Entry{[]string{"f", "f"}, 1, 0o6777, []byte(bad)}, api.ErrMode},
		{Entry{[]string{"f"}, 1, 4096, []byte(bad)}, api.ErrMode},
		{Entry{[]string{"f", "f"}, 1, 0o755, []byte(bad)}, api.ErrForm},
		{Entry{[]string{"d"}, 1, 0o755, []byte(bad)}, api.ErrForm},
		{Entry{[]string{"f", "f"}, 2, 0o777, []byte(bad)}, api.ErrLong},
		{Entry{[]string{"d"}, 0, 0o755, []byte(bad)}, api.ErrLong},
		{Entry{[]string{"f", "f"}, 2, 0o777, []byte(bad[:512])}, api.ErrPath},
		{Entry{[]string{"d"}, 2, 0o777, []byte("..")}, api.ErrPath},
		{Entry{[]string{"f", "f"}, 2, 0o777, []byte("..")}, api.ErrNone},
		{Entry{[]string{"d"}, 2, 0o777, []byte(".")}, api.ErrTwice},
	} {
		wants(t, fmt.Sprintf("%q %d", c.x.Path, c.want), append(slices.Clone(l), c.x), 2, c.want)
		// The digest is told last.
		b := append(raw(l...), part(textOf(c.x), c.x.Kind, c.x.Mode, c.x.Data, "8 bytes!")...)
		b[4] = 3
		decodes(t, "another digest", b, nil, 2, c.want)
	}
	b := append(raw(l...), part("/x", 0, 0o644, nil, "8 bytes!")...)
	b[4] = 3
	decodes(t, "another digest alone", b, nil, 2, api.ErrSum)
	wants(t, "both in what wasn't there", []Entry{file("/d/x", ""), file("/d/x", "")}, 0, api.ErrNone)
}

// P12.1: of several entries that are refused the first is told.
func TestFirstOfMany(t *testing.T) {
	wrong := []Entry{{}, {names("/a"), 9, 0, nil}, {names("/a"), 0, 0o4000, nil}, {names("/a"), 1, 0, []byte("x")}, {names("/a"), 0, 0, make([]byte, 513)}, link("/a", ".."), file("/f0", ""), file("/none/x", "")}
	told := []api.Errno{api.ErrPath, api.ErrType, api.ErrMode, api.ErrForm, api.ErrLong, api.ErrPath, api.ErrTwice, api.ErrNone}
	for i, x := range wrong {
		for _, y := range wrong {
			for no := 1; no < 4; no++ {
				l := put(put(files(4), no, y), no, x)
				wants(t, "two refused", l, no, told[i])
				wants(t, "two refused", append(put(files(4), no, x), y), no, told[i])
			}
		}
	}
}

// P12.1: bytes that don't begin as an archive does.
func TestBegin(t *testing.T) {
	b := raw(tree()...)
	for i := range 4 {
		for n := range 256 {
			if c := bytes.Clone(b); byte(n) != c[i] {
				c[i] = byte(n)
				decodes(t, "another beginning", c, nil, 0, api.ErrForm)
			}
		}
	}
	for _, s := range []string{"", "C", "CR", "CRE", "CRE\x00", "CREl", "crel\x00", " CREL\x00", "REL\x00", "CRE\x00\x00", "\x00\x00\x00\x00\x00", "x", "CREM\xff", strings.Repeat("x", 20000)} {
		decodes(t, "no archive", []byte(s), nil, 0, api.ErrForm)
	}
	decodes(t, "nil", nil, nil, 0, api.ErrForm)
	decodes(t, "the beginning alone", []byte("CREL"), nil, 0, api.ErrEnd)
	decodes(t, "no entries", []byte("CREL\x00"), nil, 0, api.OK)
}

// P12.1: more than 40 that are said to be there, ahead of all else.
func TestSaid(t *testing.T) {
	for n := range 256 {
		head := []byte{'C', 'R', 'E', 'L', byte(n)}
		wrong := append(bytes.Clone(head), entry(Entry{})...)
		right := append(bytes.Clone(head), raw(files(40)...)[5:]...)
		switch {
		case n > 40:
			decodes(t, "too many, none there", head, nil, 0, api.ErrLong)
			decodes(t, "too many, a wrong one there", wrong, nil, 0, api.ErrLong)
			decodes(t, "too many, 40 there", right, nil, 0, api.ErrLong)
			decodes(t, "too many, all there", append(right, entry(dir("/d"))...), nil, 0, api.ErrLong)
		case n == 40:
			decodes(t, "all there", right, files(40), 40, api.OK)
		case n > 0:
			decodes(t, "none there", head, nil, 0, api.ErrEnd)
			decodes(t, "a wrong one there", wrong, nil, 0, api.ErrPath)
			decodes(t, "fewer are said", right, nil, n, api.ErrForm)
		}
	}
}

// P12.1: bytes that end too early, wherever.
func TestEnds(t *testing.T) {
	l := tree()
	b := raw(l...)
	var ends []int // of each entry
	for n := range l {
		ends = append(ends, len(raw(l[:n+1]...)))
	}
	for size := range b {
		want, no := api.ErrEnd, 0
		if size < 4 {
			want = api.ErrForm
		}
		for no < len(ends) && ends[no] <= size {
			no++
		}
		decodes(t, fmt.Sprint("cut at ", size), b[:size], nil, no, want)
		if size > 4 { // what is said to be there matters, and not what follows
			c := bytes.Clone(b[:size])
			c[4] = 40
			decodes(t, fmt.Sprint("cut at ", size, ", 40 are said"), c, nil, no, want)
		}
	}
}

// P12.1: bytes that are missing are told ahead of what is wrong with an entry,
// but behind what is wrong with one ahead of it.
func TestEndsOfWrong(t *testing.T) {
	for _, x := range []Entry{{}, {names("/a"), 9, 0, nil}, {names("/a"), 0, 4096, []byte("x")}, {names("/a"), 1, 0, []byte("x")}, {names("/a"), 0, 0, make([]byte, 513)}, link("/a", ".."), file("/f0", ""), file("/none/x", "")} {
		b := raw(file("/f0", "a"), x)
		_, no, e := modelDecode(b)
		if no != 1 || e == api.OK {
			t.Fatalf("%v: %d, %d", x, no, e)
		}
		for size := len(raw(file("/f0", "a"))); size < len(b); size++ {
			decodes(t, "a wrong one, cut", b[:size], nil, 1, api.ErrEnd)
		}
		decodes(t, "a wrong one", b, nil, 1, e)
		c := append(bytes.Clone(b), entry(file("/y", "z"))...)
		c[4] = 3
		for size := len(b); size <= len(c); size++ {
			decodes(t, "a wrong one ahead of what is cut", c[:size], nil, 1, e)
		}
		decodes(t, "a wrong one ahead of what is left", append(bytes.Clone(b), "left"...), nil, 1, e)
	}
}

// P12.1: bytes that are left.
func TestLeft(t *testing.T) {
	for many := range 6 {
		b := raw(files(many)...)
		for _, left := range []string{"\x00", "x", "CREL\x00", entry(dir("/d")), strings.Repeat("\x00", 5000), string(b)} {
			decodes(t, "bytes are left", append(bytes.Clone(b), left...), nil, many, api.ErrForm)
		}
	}
}

// P12.1, P12.3: each bit of an archive that is turned, and each byte that is
// another one, or missing, or too many: it isn't decoded as it was.
func TestTurned(t *testing.T) {
	l := tree()
	b := raw(l...)
	for i := range b {
		for n := range 256 {
			if byte(n) == b[i] {
				continue
			}
			c := bytes.Clone(b)
			c[i] = byte(n)
			if got, e := heldBytes(t, fmt.Sprint("byte ", i, " is ", n), c); e == api.OK && Same(got, l) {
				t.Errorf("byte %d is %d: the same entries", i, n)
			}
		}
		heldBytes(t, fmt.Sprint("without byte ", i), slices.Delete(bytes.Clone(b), i, i+1))
		heldBytes(t, fmt.Sprint("with one more at ", i), slices.Insert(bytes.Clone(b), i, b[i]))
	}
}

// P12.1: the digest binds an entry's path and bytes, each by itself.
func TestSums(t *testing.T) {
	for _, c := range []struct {
		x   Entry
		sum string
	}{
		{file("/x", ""), "7ea786bf1a8805ef"}, {file("/x", "y"), "7d7f846570b00882"},
	} {
		b := part(textOf(c.x), 0, 0o644, c.x.Data, string(unhex(t, c.sum)))
		decodes(t, c.sum, []byte("CREL\x01"+b), []Entry{c.x}, 1, api.OK)
	}
	right := eight("/x", []byte("yz"))
	for _, sum := range []string{eight("/xy", []byte("z")), eight("/x", []byte("y")), eight("/x", nil), eight("", []byte("/xyz")), eight("/y", []byte("yz")), strings.Repeat("\x00", 8), right[1:] + right[:1], right[:7] + "\x00"} {
		decodes(t, "another digest", []byte("CREL\x01"+part("/x", 0, 0o644, []byte("yz"), sum)), nil, 0, api.ErrSum)
	}
	for bit := range 64 {
		sum := []byte(right)
		sum[bit/8] ^= 1 << (bit % 8)
		decodes(t, "a digest that is turned", []byte("CREL\x02"+entry(file("/a", ""))+part("/x", 0, 0o644, []byte("yz"), string(sum))), nil, 1, api.ErrSum)
	}
	for _, kind := range []int{0, 2} { // neither the kind nor the mode is in it
		for _, mode := range []int{0, 0o644, 0o1755} {
			decodes(t, "any kind and mode", []byte("CREL\x01"+part("/x", kind, mode, []byte("yz"), right)), []Entry{{names("/x"), kind, mode, []byte("yz")}}, 1, api.OK)
		}
	}
}

// P12.2: entries are the same in all their parts, right or not.
func TestSame(t *testing.T) {
	x := Entry{names("/a/b"), 0, 0o644, []byte("xy")}
	others := []Entry{
		{}, {names("/a/c"), 0, 0o644, []byte("xy")}, {names("/b/b"), 0, 0o644, []byte("xy")}, {names("/a"), 0, 0o644, []byte("xy")}, {names("/a/b/c"), 0, 0o644, []byte("xy")}, {nil, 0, 0o644, []byte("xy")}, {[]string{"a/b"}, 0, 0o644, []byte("xy")}, {[]string{"", "a", "b"}, 0, 0o644, []byte("xy")},
		{names("/a/b"), 1, 0o644, []byte("xy")}, {names("/a/b"), 2, 0o644, []byte("xy")}, {names("/a/b"), -1, 0o644, []byte("xy")}, {names("/a/b"), 256, 0o644, []byte("xy")}, {names("/a/b"), math.MinInt, 0o644, []byte("xy")},
		{names("/a/b"), 0, 0o645, []byte("xy")}, {names("/a/b"), 0, 4096 + 0o644, []byte("xy")}, {names("/a/b"), 0, -1, []byte("xy")}, {names("/a/b"), 0, 65536 + 0o644, []byte("xy")},
		{names("/a/b"), 0, 0o644, nil}, {names("/a/b"), 0, 0o644, []byte("x")}, {names("/a/b"), 0, 0o644, []byte("xyz")}, {names("/a/b"), 0, 0o644, []byte("xz")}, {names("/a/b"), 0, 0o644, []byte("yx")},
	}
	others = append(others, x)
	for i, a := range others {
		for j, b := range others {
			for _, ahead := range [][]Entry{nil, {x}, tree()} {
				if got := Same(append(slices.Clone(ahead), a), append(slices.Clone(ahead), b)); got != (i == j) {
					t.Errorf("Same of %v and %v: %t", a, b, got)
				}
				if got := Same(append([]Entry{a}, ahead...), append([]Entry{b}, ahead...)); got != (i == j) {
					t.Errorf("Same of %v and %v, ahead of others: %t", a, b, got)
				}
			}
		}
	}
	if !Same([]Entry{{Path: nil, Data: nil}}, []Entry{{Path: []string{}, Data: []byte{}}}) || !Same(nil, []Entry{}) {
		t.Error("Same of nothing, and nothing: false")
	}
}

// P12.2: lists are the same in their length and order.
func TestSameLists(t *testing.T) {
	l := tree()
	for n := range len(l) + 1 {
		for m := range len(l) + 1 {
			if got := Same(l[:n], l[:m]); got != (n == m) {
				t.Errorf("Same of the first %d and %d: %t", n, m, got)
			}
		}
	}
	for i := range l {
		for j := range i {
			c := slices.Clone(l)
			c[i], c[j] = c[j], c[i]
			if Same(l, c) || Same(c, l) {
				t.Errorf("Same with %d and %d changed about: true", i, j)
			}
		}
	}
	if Same([]Entry{l[0], l[0], l[1]}, []Entry{l[0], l[1], l[1]}) || Same([]Entry{{}}, nil) {
		t.Error("Same of other lists: true")
	}
}

// P12.2: the first entry of a path.
func TestFind(t *testing.T) {
	l := tree()
	for _, x := range l {
		got, e := Find(l, x.Path...)
		if e != api.OK || !Same([]Entry{got}, []Entry{x}) {
			t.Errorf("Find of %q: %v, %d", x.Path, got, e)
		}
	}
	for _, p := range [][]string{nil, {}, {""}, {"x"}, {"bin", "none"}, {"run"}, {"bin", "run", "x"}, {"bin/run"}, {"lib"}, {"bin", "lib", "a", "b", "c"}, {"bin", ""}, {"", "bin"}, {".."}, {"BIN"}, {"bi"}, {"bin "}, names(strings.Repeat("/x", 1000))} {
		for _, in := range [][]Entry{l, nil, {}, l[:1]} {
			if got, e := Find(in, p...); e != api.ErrNone || got.Path != nil || got.Kind != 0 || got.Mode != 0 || got.Data != nil {
				t.Errorf("Find of %.99q: %v, %d", p, got, e)
			}
		}
	}
	several := []Entry{file("/y", "0"), file("/x", "1"), link("/x", "2"), dir("/x"), file("/y", "3"), {Kind: 9}, {Kind: 8}, {[]string{"..", "A"}, -1, -1, []byte("4")}}
	for text, want := range map[string]int{"/x": 1, "/y": 0, "/": 5, "/../A": 7} {
		if got, e := Find(several, names(text)...); e != api.OK || !Same([]Entry{got}, several[want:want+1]) {
			t.Errorf("Find of %s: %v, %d", text, got, e)
		}
	}
}

// P12.2: how many files there are, and their bytes.
func TestSizes(t *testing.T) {
	for _, c := range []struct {
		l           []Entry
		files, size int
	}{
		{nil, 0, 0}, {[]Entry{file("/a", "")}, 1, 0}, {[]Entry{file("/a", "xyz")}, 1, 3}, {[]Entry{dir("/a")}, 0, 0}, {[]Entry{link("/a", "xyz")}, 0, 0},
		{tree(), 3, 6}, {files(40), 40, 40*6 + 10 + 2*30}, {files(50), 50, 50*6 + 10 + 2*40},
		{[]Entry{{Kind: 1, Data: []byte("xyz")}, {Kind: 3, Data: []byte("xy")}, {Kind: -1, Data: []byte("xy")}, {Kind: math.MinInt}, {Data: make([]byte, 1000)}, {Data: make([]byte, 500), Mode: -1}}, 2, 1500},
	} {
		if n, size := Sizes(c.l...); n != c.files || size != c.size {
			t.Errorf("Sizes of %d: %d, %d; want %d, %d", len(c.l), n, size, c.files, c.size)
		}
	}
}

// P12.2: the digests of each entry's bytes, whatever it is.
func TestDigests(t *testing.T) {
	if got := Digests(); len(got) != 0 {
		t.Errorf("Digests of none: %x", got)
	}
	const none, abc = "e3b0c44298fc1c149afbf4c8996fb92427ae41e4649b934ca495991b7852b855", "ba7816bf8f01cfea414140de5dae2223b00361a396177a9cb410ff61f20015ad"
	for i, got := range Digests(dir("/a"), file("/b", "abc"), link("/c", "abc"), file("/d", ""), Entry{}, Entry{Kind: 9, Data: []byte("abc")}) {
		if want := []string{none, abc, abc, none, none, abc}[i]; hex.EncodeToString(got[:]) != want {
			t.Errorf("digest %d: %x; want %s", i, got, want)
		}
	}
	l := append(tree(), files(50)...)
	got := Digests(l...)
	if len(got) != len(l) {
		t.Fatalf("%d digests of %d", len(got), len(l))
	}
	for i, x := range l {
		if got[i] != sha256.Sum256(x.Data) {
			t.Errorf("digest %d: %x", i, got[i])
		}
	}
}
