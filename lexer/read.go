package lexer

import (
	"strings"

	"creel/api"
)

// The bytes that mean something beside letters and digits.
const (
	blank     = ' '
	tab       = '\t'
	lineEnd   = '\n'
	noteBegin = '#'
	point     = '.' // stands in a key, behind the word
	pathBegin = '/'
	star      = '*' // stands in a key for any name, and in paths
	ruleEnd   = ";"
	signs     = "(),=<>*" + ruleEnd // each is a token
)

// place is where reading stands: ahead of what is left.
type place struct {
	left string
	line int // the number of the line that this is, from 1 on
}

// ended tells whether nothing is left.
func (p *place) ended() bool { return p.left == "" }

// pass answers the next n bytes, which must be there, and goes behind them.
func (p *place) pass(n int) string {
	passed := p.left[:n]
	p.left = p.left[n:]
	return passed
}

// skip goes behind all that means nothing.
func (p *place) skip() {
skipping:
	for !p.ended() {
		switch p.left[0] {
		case blank, tab:
			p.pass(1)
		case lineEnd:
			p.pass(1)
			p.line++
		case noteBegin:
			p.pass(run(p.left, inLine))
		default:
			break skipping
		}
	}
}

// reader reads tokens from its place on.
type reader struct {
	place
	l []Token // those that were read
}

// read begins to read a text.
func read(s string) reader { return reader{place: place{left: s, line: 1}} }

// all reads tokens up to the end, or to the first place where something is
// wrong, in whose line it stays.
func (r *reader) all() api.Errno {
	for {
		t, e := r.token()
		switch {
		case e == api.ErrEnd:
			return api.OK
		case e != api.OK:
			return e
		case len(r.l) == mostTokens:
			return api.ErrFull
		}
		r.l = append(r.l, t)
	}
}

// token reads the next one, and goes behind it; if none can be read, it stays
// where it should begin.
func (r *reader) token() (Token, api.Errno) {
	r.skip()
	if r.ended() {
		return Token{}, api.ErrEnd
	}
	kind, n := measure(r.left)
	switch {
	case n == 0:
		return Token{}, api.ErrForm
	case n > mostLength, kind == Number && n > mostDigits:
		return Token{}, api.ErrLong
	}
	return Token{kind, r.pass(n), r.line}, api.OK
}

// measure tells what begins a text that isn't empty, and how long it is; 0, if
// no token does.
func measure(s string) (kind, n int) {
	switch {
	case isLetter(s[0]):
		return measureWord(s)
	case isDigit(s[0]):
		return Number, run(s, isDigit)
	case s[0] == pathBegin:
		return Path, run(s, inPath)
	case isSign(s[0]):
		return Sign, 1
	}
	return 0, 0
}

// measureWord tells whether a text that begins with a letter begins with a word
// or with a key, and how long that is.
func measureWord(s string) (kind, n int) {
	n = run(s, inWord)
	if n == len(s) || s[n] != point {
		return Word, n
	}
	behind := s[n+1:]
	more := run(behind, inName)
	if more == 0 && behind != "" && behind[0] == star {
		more = 1
	}
	if more == 0 {
		return Word, n
	}
	return Key, n + 1 + more
}

// run tells how many bytes from the beginning on are of a sort.
func run(s string, is func(b byte) bool) int {
	n := 0
	for n < len(s) && is(s[n]) {
		n++
	}
	return n
}

// The sorts of bytes: what a token begins with, and what it goes on with.

func isLetter(b byte) bool { return b >= 'a' && b <= 'z' }
func isDigit(b byte) bool  { return b >= '0' && b <= '9' }
func isSign(b byte) bool   { return strings.IndexByte(signs, b) >= 0 }
func inWord(b byte) bool   { return isLetter(b) || isDigit(b) || b == '-' || b == '_' }
func inName(b byte) bool   { return inWord(b) || b == point }
func inPath(b byte) bool   { return inName(b) || b == pathBegin || b == star }
func inLine(b byte) bool   { return b != lineEnd }
