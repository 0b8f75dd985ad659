package manifest

import (
	"slices"
	"testing"
)

// roomy is a manifest whose lists are memory of its own, with room behind them.
func roomy(m Manifest) Manifest {
	for _, l := range listsOf(&m) {
		*l = append(make([]Item, 0, len(*l)+5), *l...)
	}
	return m
}

// scrub writes over all lists of a manifest, in all their room.
func scrub(m Manifest) {
	for _, l := range listsOf(&m) {
		scrubList(*l)
	}
}

func scrubList(l []Item) {
	for i := range l[:cap(l)] {
		l[:cap(l)][i] = Item{"scrub", "scrub"}
	}
}

// untouched wants a manifest to be as it was, with nothing in the room behind its
// lists.
func untouched(t *testing.T, what string, m, want Manifest) {
	t.Helper()
	if shown(m) != shown(want) {
		t.Errorf("%s changes what was handed in: %s", what, shown(m))
	}
	for _, l := range listsOf(&m) {
		if slices.ContainsFunc((*l)[len(*l):cap(*l)], func(x Item) bool { return x != Item{} }) {
			t.Errorf("%s writes behind what was handed in: %q", what, (*l)[:cap(*l)])
		}
	}
}

// untidy is full, with items that are there twice, and not rising.
func untidy() Manifest {
	m := full()
	for _, l := range listsOf(&m) {
		*l = append(slices.Clone(*l), *l...)
		slices.Reverse(*l)
	}
	return m
}

// P13.4: manifests that are handed in are neither changed nor kept.
func TestHandedIn(t *testing.T) {
	for _, want := range []Manifest{{}, plain(), full(), untidy(), with(3, items(30)...), with(0, Item{"A", "B"})} {
		m := roomy(want)
		Check(m)
		untouched(t, "Check", m, want)
		text, _ := Text(m)
		untouched(t, "Text", m, want)
		Same(m, m)
		untouched(t, "Same", m, want)
		for _, l := range listsOf(&m) {
			Find(*l, "read")
			untouched(t, "Find", m, want)
		}
		interfaces := Interfaces(m)
		untouched(t, "Interfaces", m, want)
		tidy := Tidy(m)
		untouched(t, "Tidy", m, want)
		was, words := shown(tidy), slices.Clone(interfaces)
		scrub(m)
		if shown(tidy) != was || !slices.Equal(interfaces, words) {
			t.Errorf("a change of what was handed in changes an answer: %s, %q", shown(tidy), interfaces)
		}
		if again, _ := Text(want); again != text || shown(Tidy(want)) != was || !slices.Equal(Interfaces(want), words) {
			t.Errorf("not the same once more: %s", shown(want))
		}
	}
}

// P13.4: answers are new memory, each list by itself.
func TestAnswered(t *testing.T) {
	text := raw(full())
	for what, call := range map[string]func() Manifest{
		"Parse":                  func() Manifest { m, _, _ := Parse(text); return m },
		"Tidy":                   func() Manifest { return Tidy(untidy()) },
		"Tidy of what was tidy":  func() Manifest { return Tidy(full()) },
		"Tidy of one list twice": func() Manifest { m := full(); m.Plugs, m.Slots = m.Wants, m.Wants; return Tidy(m) },
	} {
		again := call()
		was := shown(again)
		for no := range 4 {
			m := call()
			l := *listsOf(&m)[no]
			kept := slices.Clone(l)
			scrubList(l)
			copy(l, kept)
			if shown(m) != was {
				t.Errorf("%s: a change of list %d changes another: %s; want %s", what, no, shown(m), was)
			}
			scrub(m)
		}
		if shown(again) != was || shown(call()) != was {
			t.Errorf("%s: a change of one answer changes another: %s; want %s", what, shown(again), was)
		}
	}
	m := roomy(full())
	scrub(Tidy(m))
	untouched(t, "a change of what was tidied", m, full())
	l, again := Interfaces(m), Interfaces(m)
	for i := range l[:cap(l)] {
		l[:cap(l)][i] = "scrub"
	}
	untouched(t, "a change of interfaces", m, full())
	if want := []string{"disk", "log", "net"}; !slices.Equal(again, want) || !slices.Equal(Interfaces(m), want) {
		t.Errorf("a change of interfaces changes others: %q", again)
	}
}
