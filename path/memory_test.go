package path

import (
	"slices"
	"testing"

	"creel/api"
)

// lent is a list that is handed in, with room behind it that isn't its own.
type lent struct{ all, was []string }

// lend lends a list with so much room behind it.
func lend(room int, p ...string) *lent {
	l := &lent{all: append(slices.Clone(p), slices.Repeat([]string{"spare"}, room)...)}
	l.was = slices.Clone(l.all)
	l.all = slices.Clip(l.all)
	return l
}

// given is the list, behind which its room can be reached.
func (l *lent) given(room int) []string { return l.all[:len(l.all)-room] }

// untouched wants what was lent to be as it was, its room too.
func (l *lent) untouched(t *testing.T, what string) {
	t.Helper()
	if !slices.Equal(l.all, l.was) {
		t.Errorf("%s changes what was handed in: %q; it was %q", what, l.all, l.was)
	}
}

// spoil writes over a list, and over what room it has.
func spoil(p []string) {
	p = p[:cap(p)]
	for i := range p {
		p[i] = "spoilt"
	}
}

// memory wants what a call answers of two lists, lent with so much room, to
// be memory of its own.
func memory(t *testing.T, what string, call func(p, q []string) ([]string, api.Errno), p, q *lent, room int) {
	t.Helper()
	got, e := call(p.given(room), q.given(room))
	again, _ := call(p.given(room), q.given(room))
	was := slices.Clone(got)
	spoil(got)
	if !slices.Equal(again, was) {
		t.Errorf("%s, %d: a change of one answer changes another: %q; it was %q", what, e, again, was)
	}
	p.untouched(t, what)
	q.untouched(t, what)
	spoil(p.all)
	spoil(q.all)
	if !slices.Equal(again, was) {
		t.Errorf("%s, %d: a change of what was handed in changes the answer: %q; it was %q", what, e, again, was)
	}
}

// P5.4: answers are new memory, and what is handed in stays as it was, also
// where there is room behind it.
func TestNewMemory(t *testing.T) {
	calls := map[string]func(p, q []string) ([]string, api.Errno){
		"Join":            func(p, q []string) ([]string, api.Errno) { return Join(p, q...) },
		"Join of nothing": func(p, _ []string) ([]string, api.Errno) { return Join(p) },
		"Join to nothing": func(_, q []string) ([]string, api.Errno) { return Join(nil, q...) },
		"Split":           func(p, _ []string) ([]string, api.Errno) { ahead, _, e := Split(p...); return ahead, e },
		"Common":          func(p, q []string) ([]string, api.Errno) { return Common(p, q), api.OK },
		"Common with all": func(p, _ []string) ([]string, api.Errno) { return Common(p, p), api.OK },
		"Parse":           func(p, _ []string) ([]string, api.Errno) { return Parse(Text(p...)) },
	}
	for _, link := range []string{".", "..", "../..", "x", "../x", "x/..", "../x/y", "../../x/y", "../x/../y", "./x/./y", "/x", "/.", "../..//", "x/Y", "../x/Y"} {
		calls["Lead by "+link] = func(p, _ []string) ([]string, api.Errno) { return Lead(p, link) }
	}
	lists := [][]string{nil, {}, {"a"}, {"a", "b"}, {"a", "b", "c"}, {"a", "c"}, named(7, 24), named(8, 1), {"A"}, {"a", ".."}}
	for what, call := range calls {
		for _, p := range lists {
			for _, q := range lists {
				for _, room := range []int{0, 1, 3, 20} {
					memory(t, what, call, lend(room, p...), lend(room, q...), room)
				}
			}
		}
	}
}

// P5.1, P5.2: what only asks changes nothing.
func TestAskingChangesNothing(t *testing.T) {
	for _, p := range [][]string{nil, {"a"}, {"a", "b", "c"}, {"", "/"}, named(9, 25)} {
		one, other := lend(3, p...), lend(2, "a", "b")
		Text(one.given(3)...)
		Right(one.given(3)...)
		Within(one.given(3), other.given(2))
		Within(other.given(2), one.given(3))
		Same(one.given(3), other.given(2))
		one.untouched(t, "asking")
		other.untouched(t, "asking")
	}
}
