package lexer

import (
	"fmt"
	"regexp"
	"slices"
	"strings"
	"testing"

	"creel/api"
)

// What the package answers, told a second time from the chapter's words, by
// patterns.

var (
	between  = regexp.MustCompile(`^(?:[ \t\n]|#[^\n]*)*`)
	patterns = []*regexp.Regexp{
		Word:   regexp.MustCompile(`^[a-z][a-z0-9_-]*`),
		Number: regexp.MustCompile(`^[0-9]+`),
		Path:   regexp.MustCompile(`^/[a-z0-9._/*-]*`),
		Key:    regexp.MustCompile(`^[a-z][a-z0-9_-]*[.](?:[*]|[a-z0-9._-]+)`),
		Sign:   regexp.MustCompile(`^[(),;=<>*]`),
	}
)

// modelNext is another Next.
func modelNext(s string) (Token, int, api.Errno) {
	at := len(between.FindString(s))
	if at == len(s) {
		return Token{}, at, api.ErrEnd
	}
	var t Token
	for kind, p := range patterns {
		if text := p.FindString(s[at:]); len(text) > len(t.Text) {
			t = Token{kind, text, 1 + strings.Count(s[:at], "\n")}
		}
	}
	switch {
	case t.Text == "":
		return Token{}, at, api.ErrForm
	case len(t.Text) >= 61, t.Kind == Number && len(t.Text) >= 10:
		return Token{}, at, api.ErrLong
	}
	return t, at + len(t.Text), api.OK
}

// modelTokens is another Tokens.
func modelTokens(s string) ([]Token, int, api.Errno) {
	if len(s) >= 8193 {
		return nil, 0, api.ErrLong
	}
	var l []Token
	for at := 0; ; {
		t, n, e := modelNext(s[at:])
		line := 1 + strings.Count(s[:at+n], "\n")
		switch {
		case e == api.ErrEnd:
			return l, 0, api.OK
		case e != api.OK:
			return nil, line, e
		case len(l) == 800:
			return nil, line, api.ErrFull
		}
		t.Line = line
		l = append(l, t)
		at += n
	}
}

// modelText is another Text.
func modelText(l ...Token) string {
	var lines []string
	var line []string
	for _, t := range l {
		line = append(line, t.Text)
		if t.Text == ";" {
			lines = append(lines, strings.Join(line, " ")+"\n")
			line = nil
		}
	}
	return strings.Join(lines, "") + strings.Join(line, " ")
}

// modelSame is another Same.
func modelSame(a, b []Token) bool {
	unlined := func(l []Token) string {
		s := ""
		for _, x := range l {
			s += fmt.Sprintf("%d %q\n", x.Kind, x.Text)
		}
		return s
	}
	return unlined(a) == unlined(b)
}

// shown are tokens as a text that no others have.
func shown(l ...Token) string {
	s := ""
	for _, x := range l {
		s += fmt.Sprintf("%d %q in line %d, ", x.Kind, x.Text, x.Line)
	}
	return s
}

// nexts wants Next of a text to answer so.
func nexts(t *testing.T, what, s string, want Token, wantAt int, wantE api.Errno) {
	t.Helper()
	if x, at, e := Next(s); x != want || at != wantAt || e != wantE {
		t.Errorf("%s: Next(%.200q): %s%d, %d; want %s%d, %d", what, s, shown(x), at, e, shown(want), wantAt, wantE)
	}
}

// tells wants Tokens of a text to answer so; none beside an error.
func tells(t *testing.T, what, s string, want []Token, wantLine int, wantE api.Errno) {
	t.Helper()
	l, line, e := Tokens(s)
	if !slices.Equal(l, want) || line != wantLine || e != wantE {
		t.Errorf("%s: Tokens(%.200q): %.300s %d, %d; want %.300s %d, %d", what, s, shown(l...), line, e, shown(want...), wantLine, wantE)
	}
	if e != api.OK && l != nil {
		t.Errorf("%s: Tokens(%.200q): %d, and %.200s", what, s, e, shown(l...))
	}
}

// texts wants Text, Words and Same of tokens to answer as the model does, and
// Tokens to tell the same of the text, if each token is one.
func texts(t *testing.T, what string, l []Token, are bool) {
	t.Helper()
	s := Text(l...)
	if want := modelText(l...); s != want {
		t.Errorf("%s: Text(%.200s): %.300q; want %.300q", what, shown(l...), s, want)
	}
	words := Words(l...)
	if len(words) != len(l) {
		t.Errorf("%s: Words(%.200s): %.300q", what, shown(l...), words)
	}
	for i, x := range l {
		if words[i] != x.Text {
			t.Errorf("%s: Words(%.200s): %.300q", what, shown(l...), words)
		}
	}
	if !Same(l, l) {
		t.Errorf("%s: not the same as itself: %.200s", what, shown(l...))
	}
	if !are || len(s) > 8192 {
		return
	}
	back, _, e := Tokens(s)
	if e != api.OK || !Same(back, l) || !modelSame(back, l) {
		t.Errorf("%s: Tokens(%.300q): %.200s, %d; want %.200s", what, s, shown(back...), e, shown(l...))
	}
	if again := Text(back...); again != s {
		t.Errorf("%s: the text of a text's tokens: %.300q; want %.300q", what, again, s)
	}
}

// held holds what is asked of a text, and of its tokens, against the model, and
// answers what that tells.
func held(t *testing.T, what, s string) ([]Token, int, api.Errno) {
	t.Helper()
	x, at, e := modelNext(s)
	nexts(t, what, s, x, at, e)
	l, line, e := modelTokens(s)
	tells(t, what, s, l, line, e)
	if e == api.OK {
		texts(t, what, l, true)
	}
	return l, line, e
}
