package manifest

import (
	"cmp"
	"slices"
	"strings"

	"creel/api"
	"creel/path"
)

// list is one of a manifest's lists.
type list struct {
	word  string                    // what its lines begin with
	of    func(m *Manifest) *[]Item // where it is
	right func(x Item) bool         // is an item as it must be?
}

// lists are all four, in order.
func lists() []list {
	return []list{
		{"plug", func(m *Manifest) *[]Item { return &m.Plugs }, isEnd},
		{"slot", func(m *Manifest) *[]Item { return &m.Slots }, isEnd},
		{"hook", func(m *Manifest) *[]Item { return &m.Hooks }, isHook},
		{"want", func(m *Manifest) *[]Item { return &m.Wants }, isWant},
	}
}

// check tells of a list's items, the first that is wrong, what it is.
func (l list) check(items ...Item) api.Errno {
	for i, x := range items {
		switch {
		case !l.right(x):
			return api.ErrForm
		case i > 0 && compare(items[i-1], x) >= 0:
			return api.ErrTwice
		}
	}
	return api.OK
}

// isEnd tells whether an item is a plug or a slot: a name and an interface.
func isEnd(x Item) bool { return path.Name(x.A) && path.Name(x.B) }

// isHook tells whether an item is an event and the text of a path that a file
// can have.
func isHook(x Item) bool {
	switch x.A {
	case "install", "refresh", "revert", "remove":
		p, e := path.Parse(x.B)
		return e == api.OK && len(p) > 0
	}
	return false
}

// isWant tells whether an item is an operation and what it can be done with.
func isWant(x Item) bool {
	switch x.A {
	case "read", "write", "run":
		_, e := path.Parse(x.B)
		return e == api.OK
	case "get", "put":
		// The first name ends at the first point, since it has none.
		table, key, _ := strings.Cut(x.B, ".")
		return path.Name(table) && path.Name(key)
	}
	return false
}

// compare tells which of two items is above the other, by first words, and then
// by second ones.
func compare(a, b Item) int { return cmp.Or(strings.Compare(a.A, b.A), strings.Compare(a.B, b.B)) }

// tidied are the items of a list, rising, each once, in memory of their own.
func tidied(l []Item) []Item {
	own := append([]Item(nil), l...)
	slices.SortFunc(own, compare)
	return slices.Compact(own)
}

// count tells how many items these lists have together.
func count(l ...[]Item) int {
	n := 0
	for _, items := range l {
		n += len(items)
	}
	return n
}

// repeated tells whether two items of these lists have one first word.
func repeated(l ...[]Item) bool { return len(told(firstWord, l...)) < count(l...) }

func firstWord(x Item) string  { return x.A }
func secondWord(x Item) string { return x.B }

// told is what is told of each item of these lists, rising, each once.
func told(tell func(x Item) string, l ...[]Item) []string {
	var all []string
	for _, items := range l {
		for _, x := range items {
			all = append(all, tell(x))
		}
	}
	slices.Sort(all)
	return slices.Compact(all)
}
