package path

import (
	"math/rand"
	"regexp"
	"slices"
	"strings"
	"testing"

	"creel/api"
)

var (
	isName = regexp.MustCompile(`^[a-z0-9._-]{1,24}$`)
	isText = regexp.MustCompile(`^(/|(/[a-z0-9._-]{1,24}){1,8})$`)
	isLink = regexp.MustCompile(`^/?[a-z0-9._-]{1,24}(/[a-z0-9._-]{1,24})*$`)
)

// namesIn are what stands between the "/" of a text.
func namesIn(s string) []string {
	return strings.FieldsFunc(s, func(r rune) bool { return r == '/' })
}

// modelParse is another Parse, from the chapter's words.
func modelParse(s string) ([]string, api.Errno) {
	p := namesIn(s)
	switch {
	case len(s) > 160:
		return nil, api.ErrLong
	case !isText.MatchString(s) || slices.Contains(p, ".") || slices.Contains(p, ".."):
		return nil, api.ErrPath
	}
	return p, api.OK
}

// modelRight is another Right.
func modelRight(p []string) bool {
	for _, name := range p {
		if !isName.MatchString(name) || name == "." || name == ".." {
			return false
		}
	}
	return len(p) <= 8
}

// modelLead is another Lead: it keeps how deep each step is, and looks behind
// the last one whether one was wrong.
func modelLead(from []string, link string) ([]string, api.Errno) {
	switch {
	case !modelRight(from):
		return nil, api.ErrPath
	case len(link) > 160:
		return nil, api.ErrLong
	case !isLink.MatchString(link):
		return nil, api.ErrPath
	}
	var at []string
	if !strings.HasPrefix(link, "/") {
		at = slices.Clone(from)
	}
	deep := []int{len(at)}
	for _, part := range namesIn(link) {
		switch n := deep[len(deep)-1]; part {
		case ".":
		case "..":
			deep = append(deep, n-1)
			at = at[:max(len(at)-1, 0)]
		default:
			deep = append(deep, n+1)
			at = append(at, part)
		}
	}
	if slices.Min(deep) < 0 || slices.Max(deep) > 8 {
		return nil, api.ErrPath
	}
	return at, api.OK
}

// held holds a text against the models: as a name, as a path's text, and as a
// link from each of some paths.
func held(t *testing.T, s string) {
	t.Helper()
	if got, want := Name(s), isName.MatchString(s) && s != "." && s != ".."; got != want {
		t.Errorf("Name(%q): %v", s, got)
	}
	p, e := Parse(s)
	want, wantE := modelParse(s)
	answers(t, "Parse of "+s, p, e, want, wantE)
	if e == api.OK && Text(p...) != s {
		t.Errorf("Text of Parse of %q: %q", s, Text(p...))
	}
	for _, from := range [][]string{nil, {"x"}, {"x", "y"}, named(7, 1), named(8, 24), {"x", ".."}, named(9, 1)} {
		p, e := Lead(from, s)
		want, wantE := modelLead(from, s)
		answers(t, "Lead from "+Text(from...)+" by "+s, p, e, want, wantE)
		if e == api.OK && !Right(p...) {
			t.Errorf("Lead from %q by %q leads to no path: %q", from, s, p)
		}
	}
}

// P5.1, P5.3: all short texts of the signs that matter.
func TestAllShortTexts(t *testing.T) {
	const signs, longest = "/.aA", 7
	texts := []string{""}
	for range longest {
		var longer []string
		for _, s := range texts {
			held(t, s)
			for _, sign := range signs {
				longer = append(longer, s+string(sign))
			}
		}
		texts = longer
	}
	for _, s := range texts {
		held(t, s)
	}
}

// chance is any list of so many names.
func chance(r *rand.Rand, names, signs int) []string {
	var p []string
	for len(p) < names {
		b := make([]byte, 1+r.Intn(signs))
		for i := range b {
			b[i] = "abz019.-_"[r.Intn(9)]
		}
		if name := string(b); name != "." && name != ".." {
			p = append(p, name)
		}
	}
	return p
}

// P5.1, P5.3: texts by chance, and what one byte is turned of, put into or
// taken from.
func TestTextsByChance(t *testing.T) {
	r := rand.New(rand.NewSource(5))
	for range 5000 {
		parts := chance(r, 1+r.Intn(12), 1+r.Intn(25))
		for i := range parts {
			if r.Intn(3) == 0 {
				parts[i] = []string{".", "..", "..", "a"}[r.Intn(4)]
			}
		}
		s := strings.Repeat("/", r.Intn(2)) + strings.Join(parts, "/")
		held(t, s)
		at := r.Intn(len(s))
		held(t, s[:at])
		held(t, s[:at]+s[at+1:])
		held(t, s[:at]+string("/.aA"[r.Intn(4)])+s[at:])
		held(t, s[:at]+string([]byte{byte(r.Intn(256))})+s[at+1:])
	}
}

// follows wants what follows of a path, from each of some others.
func follows(t *testing.T, p []string, others [][]string) {
	t.Helper()
	text := Text(p...)
	got, e := Parse(text)
	if len(text) > 160 {
		answers(t, "Parse of "+text, got, e, nil, api.ErrLong)
	} else {
		answers(t, "Parse of "+text, got, e, p, api.OK)
	}
	for _, q := range others {
		got, e := Lead(q, text)
		switch {
		case len(text) > 160:
			answers(t, "Lead by "+text, got, e, nil, api.ErrLong)
		case len(p) == 0:
			answers(t, "Lead by the text of no names", got, e, nil, api.ErrPath)
		default:
			answers(t, "Lead from "+Text(q...)+" by "+text, got, e, p, api.OK)
		}
		if both := Within(p, q) && Within(q, p); both != Same(p, q) || Same(p, q) != (text == Text(q...)) {
			t.Errorf("%q, %q: within each other: %v; the same: %v", p, q, both, Same(p, q))
		}
		if c := Common(p, q); !Within(c, p) || !Within(c, q) || len(c) < min(len(p), len(q)) && p[len(c)] == q[len(c)] {
			t.Errorf("Common(%q, %q): %q", p, q, c)
		}
	}
	if len(p) == 0 {
		return
	}
	ahead, last, e := Split(p...)
	answers(t, "Split", ahead, e, p[:len(p)-1], api.OK)
	whole, e := Join(ahead, last)
	answers(t, "Join of what was split", whole, e, p, api.OK)
	up, e := Lead(p, "..")
	answers(t, "Lead out", up, e, ahead, api.OK)
}

// P5.4: what follows, of paths of all depths.
func TestFollows(t *testing.T) {
	r := rand.New(rand.NewSource(54))
	var all [][]string
	for names := range 9 {
		all = append(all, named(names, 1), named(names, 19), named(names, 24), chance(r, names, 1), chance(r, names, 24), chance(r, names, 2))
	}
	for _, p := range all {
		follows(t, p, all)
	}
}

// P2: the same calls have the same answers, whatever was called between.
func TestSameAnswers(t *testing.T) {
	r := rand.New(rand.NewSource(2))
	for range 200 {
		p, q := chance(r, r.Intn(10), 25), chance(r, r.Intn(5), 3)
		first := told(p, q)
		told(q, p)
		if again := told(p, q); first != again {
			t.Errorf("%q, %q: %q; then %q", p, q, first, again)
		}
	}
}

// told is what all calls answer of two lists, as a text.
func told(p, q []string) string {
	var all []string
	add := func(l []string, e api.Errno) { all = append(all, strings.Join(l, " ")+string(rune('a'+e))) }
	add(Parse(Text(p...)))
	add(Lead(p, "../"+strings.Join(q, "/")))
	add(Join(p, q...))
	ahead, last, e := Split(p...)
	add(append(ahead, last), e)
	add(Common(p, q), api.OK)
	for _, yes := range []bool{Right(p...), Within(p, q), Same(p, q), Name(last)} {
		all = append(all, map[bool]string{true: "yes", false: "no"}[yes])
	}
	return strings.Join(all, ",")
}
