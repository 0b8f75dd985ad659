package parser

import (
	"slices"
	"strconv"
	"strings"

	"creel/api"
	"creel/lexer"
	"creel/path"
)

// The words and signs that hold a rule together.
const (
	allowWord    = "allow"
	denyWord     = "deny"
	comma        = ","
	onWord       = "on"
	ifWord       = "if"
	orWord       = "or"
	andWord      = "and"
	notWord      = "not"
	bracketBegin = "("
	bracketEnd   = ")"
	ruleEnd      = ";"
)

// The words that ask for something of a package.
const (
	publisherWord = "publisher"
	packageWord   = "package"
	revisionWord  = "revision"
	hasWord       = "has"
)

// What stands in targets for any name.
const (
	star  = "*"
	below = "/" + star // behind a path: all within it
	point = "."        // between a key's table and the key
)

// asks are the two words that begin a piece which asks, by its Op.
var asks = [...][2]string{
	isPublisher: {publisherWord, "="},
	isPackage:   {packageWord, "="},
	isBelow:     {revisionWord, "<"},
	isSame:      {revisionWord, "="},
	isAbove:     {revisionWord, ">"},
	hasPlug:     {hasWord, "plug"},
	hasSlot:     {hasWord, "slot"},
	hasHook:     {hasWord, "hook"},
}

// fault is what leaves the reading, wherever it is: a token that can't stand
// where it does, or is missing.
type fault struct {
	line int
	e    api.Errno
}

// place is where reading stands: ahead of the tokens that are left.
type place struct {
	left []lexer.Token
	line int // that of the token which was passed last; 1 ahead of the first
}

// ended tells whether no token is left.
func (p *place) ended() bool { return len(p.left) == 0 }

// pass goes behind the next token, which must be there, and answers it.
func (p *place) pass() lexer.Token {
	t := p.left[0]
	p.left, p.line = p.left[1:], t.Line
	return t
}

// text answers the next token's text; no token has that of none.
func (p *place) text() string {
	if p.ended() {
		return ""
	}
	return p.left[0].Text
}

// passes goes behind the next token, if its text is that, and tells whether it
// did.
func (p *place) passes(text string) bool {
	if p.text() != text {
		return false
	}
	p.pass()
	return true
}

// fault is one of the next token; or of its missing, behind the last one.
func (p *place) fault(e api.Errno) fault {
	if p.ended() {
		return fault{p.line, e}
	}
	return fault{p.left[0].Line, e}
}

// reader reads rules from its place on.
type reader struct {
	place
	deep int // how deep the piece stands that is being read
}

// read answers the rules that tokens are; beside an error the line of the token
// that is wrong.
func read(l ...lexer.Token) (rules []Rule, line int, e api.Errno) {
	defer func() {
		if x := recover(); x != nil {
			f := x.(fault) // nothing else leaves it
			rules, line, e = nil, f.line, f.e
		}
	}()
	r := reader{place: place{left: l, line: 1}}
	return r.rules(), 0, api.OK
}

// next answers the next token, and stays ahead of it; one that can stand here
// must be there.
func (r *reader) next(can func(t lexer.Token) bool) lexer.Token {
	if r.ended() || !can(r.left[0]) {
		panic(r.fault(api.ErrPolicy))
	}
	return r.left[0]
}

// take answers the next token's text, and goes behind it; one that can stand
// here must be there.
func (r *reader) take(can func(t lexer.Token) bool) string {
	r.next(can)
	return r.pass().Text
}

// must goes behind the next token, whose text must be that.
func (r *reader) must(text string) {
	if !r.passes(text) {
		panic(r.fault(api.ErrPolicy))
	}
}

// rules reads all of them.
func (r *reader) rules() []Rule {
	var l []Rule
	for !r.ended() {
		r.next(beginsRule)
		if len(l) == api.MaxRules {
			panic(r.fault(api.ErrFull))
		}
		l = append(l, r.rule())
	}
	return l
}

// rule reads the next one.
func (r *reader) rule() Rule {
	x := Rule{Allow: r.pass().Text == allowWord, Ops: r.ops()}
	r.must(onWord)
	x.Target = r.take(func(t lexer.Token) bool { return isTarget(t, Sort(x.Ops[0])) })
	if r.passes(ifWord) {
		x.If = r.cond()
	}
	r.must(ruleEnd)
	return x
}

// ops reads operations, all of the first one's sort.
func (r *reader) ops() []string {
	l := []string{r.take(isOp)}
	for r.passes(comma) {
		op := r.next(func(t lexer.Token) bool { return Sort(t.Text) == Sort(l[0]) }).Text
		if slices.Contains(l, op) {
			panic(r.fault(api.ErrTwice))
		}
		l = append(l, r.pass().Text)
	}
	return l
}

// cond reads parts, up to where none goes on.
func (r *reader) cond() Cond { return r.joined(or, orWord, (*reader).part) }

// part reads pieces, up to where none goes on.
func (r *reader) part() Cond { return r.joined(and, andWord, (*reader).piece) }

// joined reads what stands with a word between each two; one that is alone is
// nothing else than itself.
func (r *reader) joined(op int, word string, one func(r *reader) Cond) Cond {
	l := []Cond{one(r)}
	for r.passes(word) {
		l = append(l, one(r))
	}
	if len(l) == 1 {
		return l[0]
	}
	return Cond{Op: op, L: l}
}

// pieces tells, by the words that pieces begin with, how they are read from there
// on.
func pieces() map[string]func(r *reader) Cond {
	return map[string]func(r *reader) Cond{
		notWord:       (*reader).negated,
		bracketBegin:  (*reader).within,
		publisherWord: (*reader).named,
		packageWord:   (*reader).named,
		revisionWord:  (*reader).numbered,
		hasWord:       (*reader).named,
	}
}

// piece reads the next one.
func (r *reader) piece() Cond {
	r.deep++
	if r.deep > mostDeep && !r.ended() {
		panic(r.fault(api.ErrLoop))
	}
	one, begins := pieces()[r.text()]
	if !begins {
		panic(r.fault(api.ErrPolicy))
	}
	c := one(r)
	r.deep--
	return c
}

// negated reads "not", and the piece behind it.
func (r *reader) negated() Cond {
	r.must(notWord)
	return Cond{Op: not, L: []Cond{r.piece()}}
}

// within reads a condition within brackets, which leave nothing behind.
func (r *reader) within() Cond {
	r.must(bracketBegin)
	c := r.cond()
	r.must(bracketEnd)
	return c
}

// named reads a piece that asks for a name.
func (r *reader) named() Cond { return Cond{Op: r.ask(), A: r.take(isWord)} }

// numbered reads a piece that holds a number against something.
func (r *reader) numbered() Cond {
	c := Cond{Op: r.ask()}
	c.N, _ = strconv.Atoi(r.take(isNumber))
	return c
}

// ask reads the two words that begin a piece which asks, and tells its Op.
func (r *reader) ask() int {
	first := r.pass().Text
	for op, words := range asks {
		if words[0] == first && r.passes(words[1]) {
			return op
		}
	}
	panic(r.fault(api.ErrPolicy))
}

// Which tokens can stand somewhere. That each of these texts is one kind's alone
// is the lexer's work, so mostly only the text is looked at.

func beginsRule(t lexer.Token) bool { return t.Text == allowWord || t.Text == denyWord }
func isOp(t lexer.Token) bool       { return Sort(t.Text) != noSort }
func isWord(t lexer.Token) bool     { return t.Kind == lexer.Word }
func isNumber(t lexer.Token) bool   { return t.Kind == lexer.Number }

// isTarget tells whether a token can be the target of operations of a sort.
func isTarget(t lexer.Token, sort int) bool {
	switch sort {
	case withPath:
		return isPaths(t.Text)
	case withKey:
		return isKeys(t.Text)
	}
	return isWord(t) || t.Text == star
}

// isPaths tells whether a text stands for a path, or for all within one.
func isPaths(s string) bool {
	_, e := path.Parse(strings.TrimSuffix(s, below))
	return e == api.OK || s == below
}

// isKeys tells whether a text stands for a key, or for all of a table.
func isKeys(s string) bool {
	// The first name ends at the first point, since it has none.
	table, key, _ := strings.Cut(s, point)
	return path.Name(table) && (key == star || path.Name(key))
}
