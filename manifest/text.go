package manifest

import (
	"strconv"
	"strings"
)

// What stands between two words, and behind a line.
const (
	blank = " "
	end   = "\n"
)

// The words that the lines of what isn't a list begin with.
const (
	packageWord   = "package"
	publisherWord = "publisher"
	revisionWord  = "revision"
)

// mostDigits is how many a revision has at most.
const mostDigits = 6

// write answers the text of a manifest that is right.
func write(m Manifest) string {
	text := line(packageWord, m.Package) + line(publisherWord, m.Publisher) + line(revisionWord, strconv.Itoa(m.Revision))
	for _, l := range lists() {
		for _, x := range *l.of(&m) {
			text += line(l.word, x.A, x.B)
		}
	}
	return text
}

// line is a line of these words.
func line(words ...string) string { return strings.Join(words, blank) + end }

// kind is a kind of line.
type kind struct {
	word string
	more int                                    // how many words are behind it
	once bool                                   // there is just one such line, and not any number of them
	take func(m *Manifest, said ...string) bool // lays down what they say; false, if that can't be
}

// kinds are all of them, in the order in which they come.
func kinds() []kind {
	all := []kind{
		{packageWord, 1, true, func(m *Manifest, said ...string) bool { m.Package = said[0]; return true }},
		{publisherWord, 1, true, func(m *Manifest, said ...string) bool { m.Publisher = said[0]; return true }},
		{revisionWord, 1, true, takeRevision},
	}
	for _, l := range lists() {
		all = append(all, kind{word: l.word, more: 2, take: l.take})
	}
	return all
}

// take adds an item to the list that it is of.
func (l list) take(m *Manifest, said ...string) bool {
	items := l.of(m)
	*items = append(*items, Item{said[0], said[1]})
	return true
}

// takeRevision lays down a revision, right or not, if it is a number that is
// written the one way.
func takeRevision(m *Manifest, said ...string) bool {
	n, err := strconv.Atoi(said[0])
	if err != nil || n < 0 || strconv.Itoa(n) != said[0] || len(said[0]) > mostDigits {
		return false
	}
	m.Revision = n
	return true
}

// takes lays down what a line says, if it is of this kind and can be.
func (k kind) takes(m *Manifest, words []string) bool {
	return len(words) == 1+k.more && words[0] == k.word && k.take(m, words[1:]...)
}

// behind are the kinds that may come behind a line of this kind, which is the
// first of those that might have come.
func (k kind) behind(may []kind) []kind {
	if k.once {
		return may[1:]
	}
	return may
}

// lines are those of a text that are left.
type lines struct {
	left string
	no   int // the number of the one that was asked for last
}

// ended tells whether none is left.
func (l *lines) ended() bool { return l.left == "" }

// next answers the words of the next line, and goes behind it; none, if it isn't
// there, or has no end.
func (l *lines) next() []string {
	l.no++
	text, left, ended := strings.Cut(l.left, end)
	if !ended {
		return nil
	}
	l.left = left
	return strings.Split(text, blank)
}

// reader reads what lines say.
type reader struct {
	lines
	m Manifest
}

// read reads all lines, and tells whether each can be, and each that should be
// there is; it ends at the first one that isn't so.
func (r *reader) read() bool {
	may := kinds() // those that may come; the last of them always may
reading:
	for may[0].once || !r.ended() {
		words := r.next()
		for i, k := range may {
			if k.takes(&r.m, words) {
				may = k.behind(may[i:])
				continue reading
			}
			if k.once {
				break // it can't be left out
			}
		}
		return false
	}
	return true
}
