package manifest

import (
	"fmt"
	"regexp"
	"slices"
	"strconv"
	"strings"
	"testing"

	"creel/api"
)

// What the package answers, told a second time from the chapter's words, by
// texts.

var (
	nameText     = regexp.MustCompile(`^[a-z0-9._-]{1,24}$`)
	pathText     = regexp.MustCompile(`^(/[a-z0-9._-]{1,24}){1,8}$`)
	keyText      = regexp.MustCompile(`^[a-z0-9_-]{1,24}\.[a-z0-9._-]{1,24}$`)
	revisionText = regexp.MustCompile(`^(0|[1-9][0-9]{0,5})$`)
)

// dotted tells whether one of the parts of a text between "/" is "." or "..".
func dotted(s string) bool {
	return strings.Contains("/"+s+"/", "/./") || strings.Contains("/"+s+"/", "/../")
}

func modelName(s string) bool { return nameText.MatchString(s) && !dotted(s) }

// modelPath tells of texts of paths that have a name.
func modelPath(s string) bool { return pathText.MatchString(s) && len(s) <= 160 && !dotted(s) }

func modelKey(s string) bool { return keyText.MatchString(s) && !dotted(s[strings.Index(s, ".")+1:]) }

// words are those that the lines of each list begin with, in order.
var words = []string{"plug", "slot", "hook", "want"}

// listsOf are a manifest's lists, in order.
func listsOf(m *Manifest) []*[]Item { return []*[]Item{&m.Plugs, &m.Slots, &m.Hooks, &m.Wants} }

// modelItem tells whether an item of a list is as it must be.
func modelItem(no int, x Item) bool {
	switch no {
	case 0, 1:
		return modelName(x.A) && modelName(x.B)
	case 2:
		return slices.Contains([]string{"install", "refresh", "revert", "remove"}, x.A) && modelPath(x.B)
	}
	key := x.A == "get" || x.A == "put"
	path := x.A == "read" || x.A == "write" || x.A == "run"
	return key && modelKey(x.B) || path && (x.B == "/" || modelPath(x.B))
}

// above tells whether an item is above another one.
func above(x, y Item) bool { return slices.Compare([]string{x.A, x.B}, []string{y.A, y.B}) > 0 }

// modelCheck is another Check.
func modelCheck(m Manifest) api.Errno {
	switch {
	case !modelName(m.Package), !modelName(m.Publisher):
		return api.ErrPath
	case m.Revision <= 0, m.Revision >= 1000000:
		return api.ErrArg
	case len(m.Plugs)+len(m.Slots)+len(m.Hooks)+len(m.Wants) >= 21:
		return api.ErrLong
	}
	for no, l := range listsOf(&m) {
		for i := range *l {
			if !modelItem(no, (*l)[i]) {
				return api.ErrForm
			}
			if i > 0 && !above((*l)[i], (*l)[i-1]) {
				return api.ErrTwice
			}
		}
	}
	seen := map[string]bool{}
	for no, l := range listsOf(&m)[:3] {
		for _, x := range *l {
			key := fmt.Sprint(no/2, x.A) // hooks are by themselves
			if seen[key] {
				return api.ErrTwice
			}
			seen[key] = true
		}
	}
	return api.OK
}

// raw is a manifest as a text, right or not.
func raw(m Manifest) string {
	s := fmt.Sprintf("package %s\npublisher %s\nrevision %d\n", m.Package, m.Publisher, m.Revision)
	for no, l := range listsOf(&m) {
		for _, x := range *l {
			s += words[no] + " " + x.A + " " + x.B + "\n"
		}
	}
	return s
}

// rank tells which kind a line is of, with its end, from 0 on; below 0, if it
// can't be any.
func rank(line string) int {
	if strings.Index(line, "\n") != len(line)-1 || line == "" {
		return -1
	}
	line = line[:len(line)-1]
	for i, begin := range []string{"package ", "publisher ", "revision ", "plug ", "slot ", "hook ", "want "} {
		more, begins := strings.CutPrefix(line, begin)
		switch {
		case !begins:
		case i < 3 && strings.Contains(more, " "):
		case i == 2 && !revisionText.MatchString(more):
		case i > 2 && strings.Count(more, " ") != 1:
		default:
			return i
		}
	}
	return -1
}

// modelParse is another Parse.
func modelParse(s string) (Manifest, int, api.Errno) {
	if len(s) >= 4097 {
		return Manifest{}, 0, api.ErrLong
	}
	var m Manifest
	least, no := 3, 0
	for rest := s; rest != "" || no < 3; {
		no++
		line := rest
		if i := strings.IndexByte(rest, '\n'); i >= 0 {
			line = rest[:i+1]
		}
		rest = rest[len(line):]
		r := rank(line)
		if no <= 3 && r != no-1 || no > 3 && r < least {
			return Manifest{}, no, api.ErrForm
		}
		least = max(least, r)
		more := line[strings.IndexByte(line, ' ')+1 : len(line)-1]
		switch r {
		case 0:
			m.Package = more
		case 1:
			m.Publisher = more
		case 2:
			m.Revision, _ = strconv.Atoi(more)
		default:
			i := strings.IndexByte(more, ' ')
			l := listsOf(&m)[r-3]
			*l = append(*l, Item{more[:i], more[i+1:]})
		}
	}
	if e := modelCheck(m); e != api.OK {
		return Manifest{}, 0, e
	}
	return m, 0, api.OK
}

// shown is a manifest as a text that no other one has.
func shown(m Manifest) string {
	s := fmt.Sprintf("%q %q %d", m.Package, m.Publisher, m.Revision)
	for no, l := range listsOf(&m) {
		for _, x := range *l {
			s += fmt.Sprintf(" %s %q %q", words[no], x.A, x.B)
		}
	}
	return s
}

// isZero tells whether nothing at all is in a manifest.
func isZero(m Manifest) bool {
	return shown(m) == `"" "" 0` && m.Plugs == nil && m.Slots == nil && m.Hooks == nil && m.Wants == nil
}

// parses wants Parse of a text to answer so.
func parses(t *testing.T, what, s string, want Manifest, wantNo int, wantE api.Errno) {
	t.Helper()
	m, no, e := Parse(s)
	if shown(m) != shown(want) || no != wantNo || e != wantE {
		t.Errorf("%s: Parse(%.200q): %s, %d, %d; want %s, %d, %d", what, s, shown(m), no, e, shown(want), wantNo, wantE)
	}
	if e != api.OK && !isZero(m) {
		t.Errorf("%s: Parse(%.200q): %d, and %s", what, s, e, shown(m))
	}
}

// wrongAt wants Parse of a text to tell that line.
func wrongAt(t *testing.T, what, s string, no int) {
	t.Helper()
	parses(t, what, s, Manifest{}, no, api.ErrForm)
	heldText(t, what, s)
}

// wants wants Check and Text of a manifest to answer so, and Parse to read it as
// it was.
func wants(t *testing.T, what string, m Manifest, want api.Errno) {
	t.Helper()
	if e := Check(m); e != want {
		t.Errorf("%s: Check(%s): %d; want %d", what, shown(m), e, want)
	}
	text := ""
	if want == api.OK {
		text = raw(m)
		parses(t, what, text, m, 0, api.OK)
	}
	if s, e := Text(m); s != text || e != want {
		t.Errorf("%s: Text(%s): %q, %d; want %q, %d", what, shown(m), s, e, text, want)
	}
}

// held holds what is asked of a manifest, and of its text, against the model, and
// answers what that tells.
func held(t *testing.T, what string, m Manifest) api.Errno {
	t.Helper()
	e := modelCheck(m)
	wants(t, what, m, e)
	heldText(t, what, raw(m))
	return e
}

// heldText holds what is asked of a text against the model, and answers what that
// tells. What is parsed has that text.
func heldText(t *testing.T, what, s string) (Manifest, api.Errno) {
	t.Helper()
	m, no, e := modelParse(s)
	parses(t, what, s, m, no, e)
	if got, _, e := Parse(s); e == api.OK {
		if back, e := Text(got); back != s || e != api.OK {
			t.Errorf("%s: Text of what was parsed: %q, %d; want %q", what, back, e, s)
		}
	}
	return m, e
}
