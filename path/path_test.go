package path

import (
	"slices"
	"strings"
	"testing"

	"creel/api"
)

// named is so many names of so many signs, all of them unlike.
func named(names, signs int) []string {
	var p []string
	for i := range names {
		p = append(p, strings.Repeat("x", signs-1)+string(rune('a'+i)))
	}
	return p
}

// answers wants a list and an error; beside an error the list must be nothing.
func answers(t *testing.T, what string, got []string, e api.Errno, want []string, wantE api.Errno) {
	t.Helper()
	if e != wantE || !slices.Equal(got, want) || e != api.OK && got != nil {
		t.Errorf("%.300s: %q, %d; want %q, %d", what, got, e, want, wantE)
	}
}

// isSign tells by a text of all signs whether a byte is one.
func isSign(b byte) bool {
	return strings.IndexByte("abcdefghijklmnopqrstuvwxyz0123456789.-_", b) >= 0
}

// wrongNames are texts that are no names.
func wrongNames() []string {
	return []string{
		"", ".", "..", strings.Repeat("a", 25), strings.Repeat(".", 25), strings.Repeat("a", 1000),
		"A", "Z", "aB", "a b", " ", " a", "a ", "/", "a/b", "/a", "a/", "\\", ":", "*", "~", "a\n", "\n", "\x00", "a\x00", "\x7f",
		"`", "{", "@", "[", ",", "+", "^", "é", "aé", "ａ", "\xff", "a\x80", "ı", "٣",
	}
}

// P5.1: which bytes a name has, anywhere in it.
func TestNameSigns(t *testing.T) {
	for n := range 256 {
		b := byte(n)
		if got, want := Name(string([]byte{b})), isSign(b) && b != '.'; got != want {
			t.Errorf("Name of the byte %d alone: %v", b, got)
		}
		for signs := 2; signs <= 24; signs++ {
			for at := range signs {
				s := []byte(strings.Repeat("a", signs))
				s[at] = b
				if got := Name(string(s)); got != isSign(b) {
					t.Errorf("Name(%q): %v", s, got)
				}
			}
		}
	}
}

// P5.1: how many signs a name has, and which two it can't be.
func TestName(t *testing.T) {
	for signs := range 60 {
		for _, sign := range []string{"a", "z", "0", "9", "-", "_"} {
			if got, want := Name(strings.Repeat(sign, signs)), signs >= 1 && signs <= 24; got != want {
				t.Errorf("Name of %d times %q: %v", signs, sign, got)
			}
		}
		if got, want := Name(strings.Repeat(".", signs)), signs >= 3 && signs <= 24; got != want {
			t.Errorf("Name of %d points: %v", signs, got)
		}
	}
	for _, s := range []string{"...", ".a", "a.", "..a", "a..", ".-", "-.", "._", "-", "--", "_", "0", "x-1", "a.b", "a_b-c.d0"} {
		if !Name(s) {
			t.Errorf("Name(%q): false", s)
		}
	}
	for _, s := range wrongNames() {
		if Name(s) {
			t.Errorf("Name(%.60q): true", s)
		}
	}
}

// P5.1: up to 8 names are a path; so are those whose text is too long to be
// parsed.
func TestRight(t *testing.T) {
	for names := range 20 {
		for _, signs := range []int{1, 19, 20, 24} {
			if got := Right(named(names, signs)...); got != (names <= 8) {
				t.Errorf("Right of %d names of %d signs: %v", names, signs, got)
			}
		}
	}
	for _, s := range wrongNames() {
		for names := 1; names <= 8; names++ {
			for at := range names {
				p := named(names, 3)
				p[at] = s
				if Right(p...) {
					t.Errorf("Right(%q): true", p)
				}
			}
		}
	}
	if !Right("a", "a", "a") {
		t.Error("names that are alike: false")
	}
	if Right(make([]string, 100000)...) {
		t.Error("texts that are empty: true")
	}
}

// texts are paths with their texts.
func texts() map[string][]string {
	return map[string][]string{
		"/":                                   nil,
		"/a":                                  {"a"},
		"/...":                                {"..."},
		"/a/a":                                {"a", "a"},
		"/etc/x-1/a.b":                        {"etc", "x-1", "a.b"},
		"/.a/b./_/-/0":                        {".a", "b.", "_", "-", "0"},
		"/a/b/c/d/e/f/g/h":                    {"a", "b", "c", "d", "e", "f", "g", "h"},
		"/" + strings.Repeat("a", 24):         {strings.Repeat("a", 24)},
		"/" + strings.Join(named(6, 24), "/"): named(6, 24),                                   // 150 bytes
		"/" + strings.Join(named(8, 19), "/"): named(8, 19),                                   // 160 bytes
		"/bbbbbbbbb" + Text(named(6, 24)...):  append([]string{"bbbbbbbbb"}, named(6, 24)...), // 160 bytes
	}
}

// P5.1, P5.4: each path's text, and back.
func TestTextAndParse(t *testing.T) {
	for text, p := range texts() {
		if got := Text(p...); got != text {
			t.Errorf("Text(%q): %q; want %q", p, got, text)
		}
		got, e := Parse(text)
		answers(t, "Parse of "+text, got, e, p, api.OK)
	}
	if got, want := Text(named(8, 24)...), "/"+strings.Join(named(8, 24), "/"); got != want || len(got) != 200 {
		t.Errorf("Text of a path of 200 bytes: %q", got)
	}
	if got := Text([]string{}...); got != "/" {
		t.Errorf("Text of no names: %q", got)
	}
}

// P5.1: what isn't a path's text.
func TestParseWrong(t *testing.T) {
	for _, s := range []string{
		"", "a", "a/b", "a/", "//", "///", "/a/", "/a//b", "//a", "/a/b//", ".", "..", "./a", "/.", "/..", "/./a", "/../a", "/a/.",
		"/a/..", "/a/./b", "/a/../b", " /a", "/a ", "\\a", "/a/b/c/d/e/f/g/h/i", "/a/b/c/d/e/f/g/h/", "/a/b/c/d/e/f/g//", "/a\n",
	} {
		p, e := Parse(s)
		answers(t, "Parse of "+s, p, e, nil, api.ErrPath)
	}
	for _, name := range wrongNames() {
		for _, s := range []string{"/" + name, "/a/" + name, "/" + name + "/a"} {
			if name == "" && s == "/" || name == "a/b" || name == "/a" && s == "/a" {
				continue
			}
			want := api.ErrPath
			if len(s) > 160 {
				want = api.ErrLong
			}
			p, e := Parse(s)
			answers(t, "Parse of "+s, p, e, nil, want)
		}
	}
}

// P5.1: a text of more than 160 bytes is too long, ahead of all else.
func TestParseLong(t *testing.T) {
	right := Text(named(8, 19)...)
	for _, s := range []string{right, right + "x", right + "/", Text(named(8, 24)...), strings.Repeat("/", 161), strings.Repeat("/a", 81)} {
		p, e := Parse(s)
		if len(s) == 160 {
			answers(t, "Parse of 160 bytes", p, e, named(8, 19), api.OK)
		} else {
			answers(t, "Parse of "+s, p, e, nil, api.ErrLong)
		}
	}
	for _, n := range []int{159, 160, 161, 162, 1 << 20} {
		want := api.ErrPath
		if n > 160 {
			want = api.ErrLong
		}
		for _, sign := range []string{"\x00", "/", "a", ".", "/a"} {
			s := strings.Repeat(sign, n)[:n]
			p, e := Parse(s)
			answers(t, "Parse of so many "+sign, p, e, nil, want)
		}
	}
}

// P5.2: which lists begin with which, be they paths or not.
func TestWithinSameCommon(t *testing.T) {
	long := named(30, 40)
	for _, c := range []struct {
		a, b   []string
		common int
	}{
		{nil, nil, 0},
		{nil, []string{"a"}, 0},
		{[]string{}, nil, 0},
		{[]string{"a"}, []string{"a"}, 1},
		{[]string{"a"}, []string{"a", "b"}, 1},
		{[]string{"a"}, []string{"ab"}, 0},
		{[]string{"a"}, []string{"ab", "b"}, 0},
		{[]string{"a", "b"}, []string{"ab"}, 0},
		{[]string{"a", "b"}, []string{"a/b"}, 0},
		{[]string{"a"}, []string{"b", "a"}, 0},
		{[]string{"a", "b"}, []string{"a", "b"}, 2},
		{[]string{"a", "b"}, []string{"a", "c"}, 1},
		{[]string{"a", "b", "c"}, []string{"a", "x", "c"}, 1},
		{[]string{"a", "b"}, []string{"x", "b"}, 0},
		{[]string{"a", "a"}, []string{"a", "a", "a"}, 2},
		{[]string{""}, nil, 0},
		{[]string{""}, []string{""}, 1},
		{[]string{"", ""}, []string{"", "a"}, 1},
		{[]string{"A", "/", "..", "\xff"}, []string{"A", "/", "..", "\xff", "."}, 4},
		{[]string{"a"}, []string{"A"}, 0},
		{long, long, 30},
		{long[:9], long, 9},
	} {
		for _, x := range []struct{ a, b []string }{{c.a, c.b}, {c.b, c.a}} {
			if got := Within(x.a, x.b); got != (c.common == len(x.a)) {
				t.Errorf("Within(%q, %q): %v", x.a, x.b, got)
			}
			if got := Same(x.a, x.b); got != (c.common == len(x.a) && c.common == len(x.b)) {
				t.Errorf("Same(%q, %q): %v", x.a, x.b, got)
			}
			if got := Common(x.a, x.b); !slices.Equal(got, c.a[:c.common]) {
				t.Errorf("Common(%q, %q): %q", x.a, x.b, got)
			}
		}
	}
}

// P5.2: all but the last name, and that.
func TestSplit(t *testing.T) {
	for names := 1; names <= 8; names++ {
		for _, signs := range []int{1, 24} {
			p := named(names, signs)
			ahead, last, e := Split(p...)
			answers(t, "Split", ahead, e, p[:names-1], api.OK)
			if last != p[names-1] {
				t.Errorf("Split(%q): %q", p, last)
			}
		}
	}
	wrong := [][]string{nil, {}, named(9, 1), named(1000, 1), {"a", "b", "c/d"}, {"/a/b"}}
	for _, name := range wrongNames() {
		wrong = append(wrong, []string{name}, []string{name, "a"}, []string{"a", name})
	}
	for _, p := range wrong {
		ahead, last, e := Split(p...)
		answers(t, "Split", ahead, e, nil, api.ErrPath)
		if last != "" {
			t.Errorf("Split(%q): %q beside an error", p, last)
		}
	}
}

// P5.2: more names, if all together are a path.
func TestJoin(t *testing.T) {
	for names := range 12 {
		all := named(names, 24)
		for at := range names + 1 {
			p, e := Join(all[:at:at], all[at:]...)
			if names <= 8 {
				answers(t, "Join", p, e, all, api.OK)
			} else {
				answers(t, "Join of too many", p, e, nil, api.ErrPath)
			}
		}
	}
	for _, name := range wrongNames() {
		for _, x := range []struct{ p, more []string }{
			{[]string{name}, nil}, {nil, []string{name}}, {[]string{name}, []string{"a"}}, {[]string{"a"}, []string{name}},
			{[]string{"a", name, "b"}, []string{"c"}}, {[]string{"a"}, []string{"b", name, "c"}}, {[]string{"a"}, []string{"b", name}},
		} {
			p, e := Join(x.p, x.more...)
			answers(t, "Join with "+name, p, e, nil, api.ErrPath)
		}
	}
	p, e := Join(named(9, 1), "..")
	answers(t, "Join doesn't go out", p, e, nil, api.ErrPath)
	p, e = Join(make([]string, 100000), make([]string, 100000)...)
	answers(t, "Join of texts that are empty", p, e, nil, api.ErrPath)
}

// lead is a link from somewhere, and the text of where it leads: "" where it
// isn't allowed.
type lead struct{ link, to string }

// wantsLead wants each link from a path, told by its text, to lead so.
func wantsLead(t *testing.T, from string, links ...lead) {
	t.Helper()
	p := strings.FieldsFunc(from, func(r rune) bool { return r == '/' })
	for _, x := range links {
		want, wantE := strings.FieldsFunc(x.to, func(r rune) bool { return r == '/' }), api.OK
		if x.to == "" {
			wantE = api.ErrPath
		}
		got, e := Lead(p, x.link)
		answers(t, "Lead from "+from+" by "+x.link, got, e, want, wantE)
	}
}

// P5.3: where links lead.
func TestLead(t *testing.T) {
	wantsLead(t, "/",
		lead{"a", "/a"}, lead{"/a", "/a"}, lead{".", "/"}, lead{"/.", "/"}, lead{"./.", "/"}, lead{"/./.", "/"}, lead{"a/..", "/"},
		lead{"/a/..", "/"}, lead{"a/../b", "/b"}, lead{"...", "/..."}, lead{"a/b/../../c", "/c"},
		lead{"a/b/c/d/e/f/g/h", "/a/b/c/d/e/f/g/h"}, lead{"a/b/c/d/e/f/g/h/../i", "/a/b/c/d/e/f/g/i"},
		lead{strings.Repeat("a", 24), "/" + strings.Repeat("a", 24)},
	)
	wantsLead(t, "/a/b",
		lead{"../c/./d", "/a/c/d"}, lead{"..", "/a"}, lead{"../..", "/"}, lead{"../../.", "/"}, lead{"../../x", "/x"},
		lead{"../../x/..", "/"}, lead{".", "/a/b"}, lead{"c", "/a/b/c"}, lead{"/c", "/c"}, lead{"/.", "/"}, lead{"/a/b", "/a/b"},
		lead{"b", "/a/b/b"}, lead{"./b", "/a/b/b"}, lead{"c/..", "/a/b"}, lead{"c/../..", "/a"}, lead{"/x/../y", "/y"},
		lead{"c/d/e/f/g/h", "/a/b/c/d/e/f/g/h"}, lead{"..a", "/a/b/..a"}, lead{"a..", "/a/b/a.."}, lead{".../..", "/a/b"},
		lead{"c/d/e/f/g/h/i", ""}, lead{"../../..", ""},
	)
	wantsLead(t, "/a", lead{"../x", "/x"}, lead{"../../x", ""})
}

// P5.3: no name on the way makes the path longer than 8.
func TestLeadDeep(t *testing.T) {
	wantsLead(t, "/a/b/c/d/e/f/g/h",
		lead{".", "/a/b/c/d/e/f/g/h"}, lead{"..", "/a/b/c/d/e/f/g"}, lead{"../x", "/a/b/c/d/e/f/g/x"},
		lead{"../x/..", "/a/b/c/d/e/f/g"}, lead{"../../x/y", "/a/b/c/d/e/f/x/y"}, lead{"../../../../../../../..", "/"},
		lead{"/.", "/"}, lead{"/x", "/x"}, lead{"/1/2/3/4/5/6/7/8", "/1/2/3/4/5/6/7/8"},
		lead{"/1/2/3/4/5/6/7/8/../9/.", "/1/2/3/4/5/6/7/9"},
		lead{"x", ""}, lead{"x/..", ""}, lead{"x/../..", ""}, lead{"./x", ""}, lead{"../x/y", ""}, lead{"../x/y/..", ""},
		lead{"/1/2/3/4/5/6/7/8/9", ""}, lead{"/1/2/3/4/5/6/7/8/9/..", ""}, lead{"/1/2/3/4/5/6/7/8/9/../..", ""},
	)
	wantsLead(t, "/a/b/c/d/e/f/g",
		lead{"h", "/a/b/c/d/e/f/g/h"}, lead{"h/..", "/a/b/c/d/e/f/g"}, lead{"h/../i", "/a/b/c/d/e/f/g/i"}, lead{"h/i", ""},
		lead{"h/i/..", ""}, lead{"h/i/../..", ""},
	)
}

// P5.3: links that are no link's text, and those that go out of no names.
func TestLeadWrong(t *testing.T) {
	for _, from := range [][]string{nil, {"a"}, {"a", "b"}, named(7, 24)} {
		outside := strings.Repeat("../", len(from)) + ".."
		links := []string{
			"", "/", "//", "///", "a/", "/a/", "./", "../", "/./", "//a", "a//b", "/a//b", "a//", ".//.", "..//..", "a/../", "/..", "/./..",
			"/../a", "/a/../..", "/a/../../a", outside, outside + "/a", "./" + outside, "x/../" + outside, outside + "/.", outside + "/..",
		}
		for _, name := range wrongNames() {
			// Of links these are parts too, or aren't one part.
			if name != "" && name != "." && name != ".." && !strings.Contains(name, "/") {
				links = append(links, name, "/"+name, "./"+name, name+"/.", "/x/../"+name, name+"/..")
			}
		}
		for _, link := range links {
			want := api.ErrPath
			if len(link) > 160 {
				want = api.ErrLong
			}
			p, e := Lead(from, link)
			answers(t, "Lead by "+link, p, e, nil, want)
		}
	}
}

// P5.3: a link of more than 160 bytes is too long, ahead of what is wrong in
// it, and behind what is wrong of the path it leads on from.
func TestLeadLong(t *testing.T) {
	from := []string{"f", "g"}
	p, e := Lead(from, strings.Repeat("./", 79)+"ab")
	answers(t, "Lead by 160 bytes", p, e, []string{"f", "g", "ab"}, api.OK)
	p, e = Lead(from, "/"+strings.Repeat("./", 79)+"a")
	answers(t, "Lead by 160 bytes from the beginning", p, e, []string{"a"}, api.OK)
	p, e = Lead(from, Text(named(8, 19)...))
	answers(t, "Lead by a path's text of 160 bytes", p, e, named(8, 19), api.OK)
	for _, link := range []string{
		strings.Repeat("./", 79) + "abc", strings.Repeat("./", 80) + ".", "/" + strings.Repeat("./", 80), Text(named(8, 24)...),
		strings.Repeat("\x00", 161), strings.Repeat("/", 161), strings.Repeat("a", 1<<20), strings.Repeat("../", 60),
	} {
		p, e := Lead(from, link)
		answers(t, "Lead by "+link, p, e, nil, api.ErrLong)
	}
	wrong := [][]string{named(9, 1), named(1000, 1), {"/a"}, {"a", "b/c"}}
	for _, name := range wrongNames() {
		wrong = append(wrong, []string{name}, []string{"a", name, "b"})
	}
	for _, from := range wrong {
		for _, link := range []string{"a", "/a", ".", "..", "../..", "", "/", "//", strings.Repeat("a", 161), strings.Repeat("\x00", 500)} {
			p, e := Lead(from, link)
			answers(t, "Lead from what isn't a path", p, e, nil, api.ErrPath)
		}
	}
}
