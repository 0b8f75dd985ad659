package lexer

import (
	"fmt"
	"slices"
	"strings"
	"testing"

	"creel/api"
)

// in is a list of tokens that all begin in one line.
func in(line int, l ...Token) []Token {
	l = slices.Clone(l)
	for i := range l {
		l[i].Line = line
	}
	return l
}

func aWord(s string) Token   { return Token{Kind: Word, Text: s} }
func aNumber(s string) Token { return Token{Kind: Number, Text: s} }
func aPath(s string) Token   { return Token{Kind: Path, Text: s} }
func aKey(s string) Token    { return Token{Kind: Key, Text: s} }
func aSign(s string) Token   { return Token{Kind: Sign, Text: s} }

// The numbers of the kinds.
func TestKinds(t *testing.T) {
	if got := [5]int{Word, Number, Path, Key, Sign}; got != [5]int{0, 1, 2, 3, 4} {
		t.Errorf("kinds: %d", got)
	}
}

// P14.2: whole texts, and what they are.
func TestTexts(t *testing.T) {
	for _, c := range []struct {
		s    string
		want []Token
	}{
		{"", nil}, {" ", nil}, {"\n", nil}, {"\t", nil}, {"#", nil}, {"# x", nil}, {"#\n", nil}, {"##", nil}, {" \t\n # x;\n\t#\n\n ", nil},
		{"allow read on /a/*;", in(1, aWord("allow"), aWord("read"), aWord("on"), aPath("/a/*"), aSign(";"))},
		{"deny put on x.* if not (package = a or revision < 3);", in(1, aWord("deny"), aWord("put"), aWord("on"), aKey("x.*"), aWord("if"), aWord("not"), aSign("("), aWord("package"), aSign("="), aWord("a"), aWord("or"), aWord("revision"), aSign("<"), aNumber("3"), aSign(")"), aSign(";"))},
		{"a", in(1, aWord("a"))}, {"a\n", in(1, aWord("a"))}, {"\na", in(2, aWord("a"))}, {"\n\n\na", in(4, aWord("a"))},
		{"a b", in(1, aWord("a"), aWord("b"))}, {"a\tb", in(1, aWord("a"), aWord("b"))}, {"a  \t b", in(1, aWord("a"), aWord("b"))}, {"ab", in(1, aWord("ab"))}, {"a#b", in(1, aWord("a"))}, {"a #b c;", in(1, aWord("a"))},
		{"a\nb", []Token{{Word, "a", 1}, {Word, "b", 2}}}, {"a#\nb", []Token{{Word, "a", 1}, {Word, "b", 2}}}, {"a # b\n# c\n\td # e", []Token{{Word, "a", 1}, {Word, "d", 3}}}, {"a\n\n\nb c\nd", []Token{{Word, "a", 1}, {Word, "b", 4}, {Word, "c", 4}, {Word, "d", 5}}},
		{"#a\x00\xff\r\tA\"'.\x7f\nb", in(2, aWord("b"))}, {"# a # b\nc", in(2, aWord("c"))}, {"a;#;\n;", []Token{{Word, "a", 1}, {Sign, ";", 1}, {Sign, ";", 2}}},
		{"a-", in(1, aWord("a-"))}, {"a_", in(1, aWord("a_"))}, {"a0", in(1, aWord("a0"))}, {"a-b_c9-_", in(1, aWord("a-b_c9-_"))}, {"z", in(1, aWord("z"))},
		{"0", in(1, aNumber("0"))}, {"00", in(1, aNumber("00"))}, {"007", in(1, aNumber("007"))}, {"123456789", in(1, aNumber("123456789"))}, {"999999999", in(1, aNumber("999999999"))},
		{"1a", in(1, aNumber("1"), aWord("a"))}, {"1a1", in(1, aNumber("1"), aWord("a1"))}, {"1/2", in(1, aNumber("1"), aPath("/2"))}, {"1;2", in(1, aNumber("1"), aSign(";"), aNumber("2"))}, {"1*2", in(1, aNumber("1"), aSign("*"), aNumber("2"))}, {"1 2", in(1, aNumber("1"), aNumber("2"))},
		{"/", in(1, aPath("/"))}, {"//", in(1, aPath("//"))}, {"/*", in(1, aPath("/*"))}, {"/**/*", in(1, aPath("/**/*"))}, {"/a/b-1/*", in(1, aPath("/a/b-1/*"))}, {"/..", in(1, aPath("/.."))}, {"/./.a/-/_/9", in(1, aPath("/./.a/-/_/9"))},
		{"/a /b", in(1, aPath("/a"), aPath("/b"))}, {"/a,/b", in(1, aPath("/a"), aSign(","), aPath("/b"))}, {"/a;", in(1, aPath("/a"), aSign(";"))}, {"/a#/b", in(1, aPath("/a"))}, {"a/b", in(1, aWord("a"), aPath("/b"))}, {"a-/b.c", in(1, aWord("a-"), aPath("/b.c"))}, {"(/a)", in(1, aSign("("), aPath("/a"), aSign(")"))}, {"*/a*", in(1, aSign("*"), aPath("/a*"))},
		{"a.b", in(1, aKey("a.b"))}, {"a.*", in(1, aKey("a.*"))}, {"a.1", in(1, aKey("a.1"))}, {"a.-", in(1, aKey("a.-"))}, {"a._", in(1, aKey("a._"))}, {"a..", in(1, aKey("a.."))}, {"a...", in(1, aKey("a..."))}, {"a.b.c", in(1, aKey("a.b.c"))}, {"a.b.", in(1, aKey("a.b."))}, {"a1-_.b", in(1, aKey("a1-_.b"))}, {"a-.9z", in(1, aKey("a-.9z"))},
		{"a.*b", in(1, aKey("a.*"), aWord("b"))}, {"a.**", in(1, aKey("a.*"), aSign("*"))}, {"a.b*", in(1, aKey("a.b"), aSign("*"))}, {"a..*", in(1, aKey("a.."), aSign("*"))}, {"a.*1", in(1, aKey("a.*"), aNumber("1"))}, {"a.*/b", in(1, aKey("a.*"), aPath("/b"))}, {"a.*;", in(1, aKey("a.*"), aSign(";"))}, {"a.b/c", in(1, aKey("a.b"), aPath("/c"))}, {"a.b,c.d", in(1, aKey("a.b"), aSign(","), aKey("c.d"))}, {"a.*b.*", in(1, aKey("a.*"), aKey("b.*"))}, {"a.b.*", in(1, aKey("a.b."), aSign("*"))}, {"1a.b", in(1, aNumber("1"), aKey("a.b"))},
		{"(),;=<>*", in(1, aSign("("), aSign(")"), aSign(","), aSign(";"), aSign("="), aSign("<"), aSign(">"), aSign("*"))}, {"**", in(1, aSign("*"), aSign("*"))}, {"<=", in(1, aSign("<"), aSign("="))}, {"a=b", in(1, aWord("a"), aSign("="), aWord("b"))}, {"a*b", in(1, aWord("a"), aSign("*"), aWord("b"))}, {"a;b", in(1, aWord("a"), aSign(";"), aWord("b"))},
	} {
		tells(t, "a whole text", c.s, c.want, 0, api.OK)
		held(t, "a whole text", c.s)
	}
}

// P14.1: the token at the beginning, its line, and the place behind it.
func TestNext(t *testing.T) {
	for _, c := range []struct {
		s    string
		want Token
		at   int
	}{
		{"a", Token{Word, "a", 1}, 1}, {"a b", Token{Word, "a", 1}, 1}, {" a ", Token{Word, "a", 1}, 2}, {"\ta\n", Token{Word, "a", 1}, 2}, {"\n\na", Token{Word, "a", 3}, 3}, {" \n \n\t a;", Token{Word, "a", 3}, 7},
		{"# x\na", Token{Word, "a", 2}, 5}, {"#\n#\n#\n a", Token{Word, "a", 4}, 8}, {"  # n\n abc.*d", Token{Key, "abc.*", 2}, 12}, {"a.", Token{Word, "a", 1}, 1}, {"a. b", Token{Word, "a", 1}, 1}, {"ab./c", Token{Word, "ab", 1}, 2}, {"ab.;", Token{Word, "ab", 1}, 2}, {"ab.A", Token{Word, "ab", 1}, 2}, {"ab.\xff", Token{Word, "ab", 1}, 2},
		{"aB", Token{Word, "a", 1}, 1}, {"12.3", Token{Number, "12", 1}, 2}, {"12x", Token{Number, "12", 1}, 2}, {"/A", Token{Path, "/", 1}, 1}, {"/a b", Token{Path, "/a", 1}, 2}, {";;", Token{Sign, ";", 1}, 1}, {"a.b A", Token{Key, "a.b", 1}, 3}, {"*.", Token{Sign, "*", 1}, 1},
	} {
		nexts(t, "a token", c.s, c.want, c.at, api.OK)
		held(t, "a token", c.s)
	}
	for _, c := range []struct {
		s  string
		at int
		e  api.Errno
	}{
		{"", 0, api.ErrEnd}, {" ", 1, api.ErrEnd}, {"\n", 1, api.ErrEnd}, {" \t\n", 3, api.ErrEnd}, {"#", 1, api.ErrEnd}, {" # x", 4, api.ErrEnd}, {"# x\n", 4, api.ErrEnd}, {"#\n#", 3, api.ErrEnd}, {"# A \x00\xff", 6, api.ErrEnd}, {strings.Repeat("\n", 10000), 10000, api.ErrEnd}, {"#" + strings.Repeat("x", 10000), 10001, api.ErrEnd},
		{"A", 0, api.ErrForm}, {" A", 1, api.ErrForm}, {"\n\nA", 2, api.ErrForm}, {"# x\n.", 4, api.ErrForm}, {".", 0, api.ErrForm}, {".a", 0, api.ErrForm}, {"-a", 0, api.ErrForm}, {"_a", 0, api.ErrForm}, {"-1", 0, api.ErrForm}, {"\r\na", 0, api.ErrForm}, {" \x00", 1, api.ErrForm}, {"é", 0, api.ErrForm}, {"\xc2\xa0a", 0, api.ErrForm}, {"\xef\xbb\xbfa", 0, api.ErrForm}, {"\"a\"", 0, api.ErrForm}, {"!a", 0, api.ErrForm}, {"\v", 0, api.ErrForm}, {"\f", 0, api.ErrForm},
		{"1234567890", 0, api.ErrLong}, {" \n 0000000000a", 3, api.ErrLong}, {"# x\n" + strings.Repeat("a", 61), 4, api.ErrLong}, {strings.Repeat("a", 61) + " A", 0, api.ErrLong}, {strings.Repeat("/", 20000), 0, api.ErrLong},
	} {
		nexts(t, "no token", c.s, Token{}, c.at, c.e)
		held(t, "no token", c.s)
	}
}

// P14.1: of Next a text may be of any length.
func TestNextOfLongTexts(t *testing.T) {
	blanks := strings.Repeat(" \n", 5000)
	nexts(t, "far behind", blanks+"ab A", Token{Word, "ab", 5001}, 10002, api.OK)
	nexts(t, "far behind", blanks+"A", Token{}, 10000, api.ErrForm)
	nexts(t, "far behind", blanks+"1234567890", Token{}, 10000, api.ErrLong)
	nexts(t, "far ahead", "ab"+blanks+"A", Token{Word, "ab", 1}, 2, api.OK)
	nexts(t, "very long", strings.Repeat("a", 1<<22), Token{}, 0, api.ErrLong)
	nexts(t, "very long", strings.Repeat("#\n", 1<<20)+";", Token{Sign, ";", 1<<20 + 1}, 1<<21+1, api.OK)
}

// What each byte is: those that a token begins with, and those that it goes on
// with.
const (
	small    = "abcdefghijklmnopqrstuvwxyz"
	digits   = "0123456789"
	names    = small + digits + ".-_"
	oneSigns = "(),;=<>*"
)

// kindOf is the kind of a token of one byte; below 0, if it is none.
func kindOf(b byte) int {
	for kind, begins := range []string{Word: small, Number: digits, Path: "/", Key: "", Sign: oneSigns} {
		if strings.IndexByte(begins, b) >= 0 {
			return kind
		}
	}
	return -1
}

// P14.1, P14.2: each byte by itself, and behind tokens of each kind: whether it
// belongs to them, stands between tokens, begins one, or is wrong.
func TestBytes(t *testing.T) {
	for n := range 256 {
		b := byte(n)
		s := string([]byte{b})
		what := fmt.Sprintf("byte %d", n)
		switch kind := kindOf(b); {
		case strings.Contains(" \t\n#", s):
			nexts(t, what, s, Token{}, 1, api.ErrEnd)
		case kind >= 0:
			nexts(t, what, s, Token{kind, s, 1}, 1, api.OK)
		default:
			nexts(t, what, s, Token{}, 0, api.ErrForm)
			nexts(t, what, "\n "+s+"x", Token{}, 2, api.ErrForm)
			tells(t, what, "a\n "+s, nil, 2, api.ErrForm)
			tells(t, what, "a\n#"+s+"\n\n"+s+"\n"+s, nil, 4, api.ErrForm)
		}
		for _, c := range []struct {
			begin Token
			goes  string // what it goes on with
		}{
			{Token{Word, "x", 1}, small + digits + "-_"}, {Token{Word, "x1-_", 1}, small + digits + "-_"},
			{Token{Number, "1", 1}, digits}, {Token{Path, "/", 1}, names + "/*"}, {Token{Path, "/a*", 1}, names + "/*"},
			{Token{Key, "x.y", 1}, names}, {Token{Key, "x..", 1}, names}, {Token{Key, "x.*", 1}, ""},
			{Token{Sign, "(", 1}, ""}, {Token{Sign, "*", 1}, ""},
		} {
			want := c.begin
			if strings.IndexByte(c.goes, b) >= 0 {
				want.Text += s
			}
			nexts(t, what+" behind "+c.begin.Text, c.begin.Text+s, want, len(want.Text), api.OK)
			held(t, what+" behind "+c.begin.Text, c.begin.Text+s)
			held(t, what+" between", c.begin.Text+s+"\n"+c.begin.Text)
			held(t, what+" ahead", s+c.begin.Text+s)
		}
		want := Token{Word, "x", 1}
		if strings.IndexByte(names+"*", b) >= 0 {
			want = Token{Key, "x." + s, 1}
		}
		nexts(t, what+" behind a point", "x."+s, want, len(want.Text), api.OK)
		held(t, what+" behind a point", "x."+s)
	}
}

// P14.1, P14.2: how long a token may be.
func TestLengths(t *testing.T) {
	for n := range 130 {
		for kind, l := range [][]string{
			Word:   {"x" + strings.Repeat("a", n), "x" + strings.Repeat("-", n), "x" + strings.Repeat("0", n)},
			Number: {strings.Repeat("1", n+1), strings.Repeat("0", n+1), strings.Repeat("9", n+1)},
			Path:   {"/" + strings.Repeat("/", n), "/" + strings.Repeat("a", n), "/" + strings.Repeat("*", n)},
			Key:    {"x" + strings.Repeat("a", n) + ".*", "x" + strings.Repeat("a", n) + ".b", "x." + strings.Repeat(".", n+1), "x" + strings.Repeat("a", n/2) + "." + strings.Repeat("b", n/2+1)},
			Sign:   nil,
		} {
			for _, text := range l {
				fits := len(text) <= 60
				if kind == Number {
					fits = len(text) <= 9
				}
				for _, behind := range []string{"", " ", ";", "\n", "#"} {
					if fits {
						nexts(t, "a length", "\n"+text+behind, Token{kind, text, 2}, 1+len(text), api.OK)
					} else {
						nexts(t, "a length", "\n"+text+behind, Token{}, 1, api.ErrLong)
						tells(t, "a length", "\n;\n"+text+behind, nil, 3, api.ErrLong)
					}
					held(t, "a length", text+behind)
				}
			}
		}
	}
	long := strings.Repeat("a", 60)
	for _, s := range []string{long + ".", long + ". ", long + "./", long + ".A"} {
		nexts(t, "a word, and a point", s, Token{Word, long, 1}, 60, api.OK)
		tells(t, "a word, and a point", s, nil, 1, api.ErrForm)
	}
	for _, s := range []string{long + ".b", long + ".*", long[1:] + ".*", long + "a.", long[2:] + ".bc", "a." + long} {
		nexts(t, "a key", s, Token{}, 0, api.ErrLong)
	}
	nexts(t, "a key, and a word", long[2:]+".*"+long, Token{Key, long[2:] + ".*", 1}, 60, api.OK)
	held(t, "many tokens of 60 bytes", strings.Repeat(long+" ", 134))
	held(t, "many signs", strings.Repeat("*", 100))
}

// P14.2: how long a text may be, ahead of all that is wrong in it.
func TestTextLengths(t *testing.T) {
	for _, unit := range []string{" ", "\n", "a\n", "#", "A", "/", "1", ";", "\x00", "é", strings.Repeat("a", 12) + " ", strings.Repeat("a", 12) + ";\n\n"} {
		for _, n := range []int{8190, 8191, 8192} {
			held(t, "a text that fits", strings.Repeat(unit, n)[:n])
		}
		for _, n := range []int{8193, 8194, 10000, 20000, 1 << 17} {
			tells(t, "a text that doesn't fit", strings.Repeat(unit, n)[:n], nil, 0, api.ErrLong)
		}
	}
	tells(t, "blanks", strings.Repeat(" ", 8192), nil, 0, api.OK)
	tells(t, "a token at the end", strings.Repeat("\n", 8191)+"a", in(8192, aWord("a")), 0, api.OK)
	tells(t, "a wrong byte at the end", strings.Repeat("\n", 8191)+"A", nil, 8192, api.ErrForm)
	tells(t, "a wrong byte, and no room", "A"+strings.Repeat("\n", 8192), nil, 0, api.ErrLong)
}

// P14.2: how many tokens there may be; what is met ahead of the one too many is
// told, and what is behind it isn't.
func TestCount(t *testing.T) {
	for _, unit := range []string{";", "a ", "1\n", "/ ", "a.* ", "a.b\n", "#\n(", "a;", "*"} {
		each := len(tokensOf(t, unit))
		for _, n := range []int{1, 798 / each, 799 / each, 800 / each} {
			l, _, e := held(t, "not too many", strings.Repeat(unit, n))
			if e != api.OK || len(l) != n*each {
				t.Errorf("%d of %q: %d tokens, %d", n, unit, len(l), e)
			}
		}
		full := strings.Repeat(unit, 800/each)
		line := 1 + strings.Count(full, "\n")
		tells(t, "one too many", full+" ;", nil, line, api.ErrFull)
		tells(t, "one too many", full+"\n\n;", nil, line+2, api.ErrFull)
		tells(t, "one too many, in a line behind a note", full+" # ;;\n ;\n\n;", nil, line+1, api.ErrFull)
		tells(t, "one too many, ahead of what is wrong", full+";A", nil, line, api.ErrFull)
		tells(t, "one too many, ahead of what is wrong", full+"\n;\n1234567890", nil, line+1, api.ErrFull)
		tells(t, "what is wrong, behind 800", full+"\nA\n;", nil, line+1, api.ErrForm)
		tells(t, "what is wrong, behind 800", full+"\n1234567890\n;", nil, line+1, api.ErrLong)
		tells(t, "what is wrong, ahead", "\nA"+full+";", nil, 2, api.ErrForm)
		tells(t, "what is wrong, ahead", "\n1234567890 "+full+";", nil, 2, api.ErrLong)
		for _, s := range []string{full, full + "\n", full + " # ;", full + "\n#A\n"} {
			if l, _, e := held(t, "just as many", s); e != api.OK || len(l) != 800 {
				t.Errorf("just as many: %d, %d", len(l), e)
			}
		}
		for n := 801; n*len(unit)/each <= 8192 && n < 900; n++ {
			held(t, "too many", strings.Repeat(unit, n/each+1))
		}
	}
}

// tokensOf are the tokens of a text that is right.
func tokensOf(t *testing.T, s string) []Token {
	t.Helper()
	l, _, e := Tokens(s)
	if e != api.OK {
		t.Fatalf("Tokens(%.200q): %d", s, e)
	}
	return l
}

// P14.2: the first that is met is told, with its line.
func TestWrong(t *testing.T) {
	for _, c := range []struct {
		s    string
		line int
		e    api.Errno
	}{
		{"A", 1, api.ErrForm}, {"a A", 1, api.ErrForm}, {"a\nB", 2, api.ErrForm}, {"a.", 1, api.ErrForm}, {"x.\n", 1, api.ErrForm}, {"\nx .y", 2, api.ErrForm}, {"x. y", 1, api.ErrForm}, {"a\r\nb", 1, api.ErrForm}, {"a;\nb;\r\n", 2, api.ErrForm}, {"/a\x00", 1, api.ErrForm}, {"/a\n/B", 2, api.ErrForm}, {"1.2", 1, api.ErrForm}, {"1-2", 1, api.ErrForm}, {"1_", 1, api.ErrForm}, {"a=-1", 1, api.ErrForm}, {"\n\n\n-", 4, api.ErrForm}, {"# x\n# y\n\"", 3, api.ErrForm}, {"a.*.b", 1, api.ErrForm}, {"a.*-", 1, api.ErrForm}, {"*.b", 1, api.ErrForm}, {"1.b", 1, api.ErrForm}, {"a!=b", 1, api.ErrForm}, {"a&b", 1, api.ErrForm}, {"[a]", 1, api.ErrForm}, {"é", 1, api.ErrForm}, {"aé", 1, api.ErrForm}, {"a+b", 1, api.ErrForm}, {"a:b", 1, api.ErrForm}, {"a\\b", 1, api.ErrForm}, {"a'", 1, api.ErrForm}, {"a\x7f", 1, api.ErrForm}, {"a~", 1, api.ErrForm}, {"a`{", 1, api.ErrForm}, {"@a", 1, api.ErrForm},
		{"1234567890", 1, api.ErrLong}, {"a\n\n0123456789", 3, api.ErrLong}, {"1234567890\nA", 1, api.ErrLong}, {"A\n1234567890", 1, api.ErrForm}, {"1234567890A", 1, api.ErrLong}, {"a\n" + strings.Repeat("b", 61) + "\n\n", 2, api.ErrLong}, {"A" + strings.Repeat("b", 61), 1, api.ErrForm}, {strings.Repeat("b", 60) + "\nA", 2, api.ErrForm}, {"a\n#" + strings.Repeat("b", 61) + "\n.", 3, api.ErrForm},
	} {
		tells(t, "what is wrong", c.s, nil, c.line, c.e)
		held(t, "what is wrong", c.s)
	}
}

// P14.3: texts, words, and what is the same.
func TestText(t *testing.T) {
	for _, c := range []struct {
		l    []Token
		want string
	}{
		{nil, ""}, {[]Token{}, ""}, {[]Token{aWord("a")}, "a"}, {[]Token{aWord("a"), aWord("b")}, "a b"}, {[]Token{aSign(";")}, ";\n"}, {[]Token{aSign(";"), aSign(";")}, ";\n;\n"}, {[]Token{aWord("a"), aSign(";")}, "a ;\n"}, {[]Token{aWord("a"), aSign(";"), aWord("b")}, "a ;\nb"}, {[]Token{aWord("a"), aSign(";"), aWord("b"), aSign(";")}, "a ;\nb ;\n"},
		{[]Token{aSign("("), aWord("a"), aSign(")")}, "( a )"}, {[]Token{aWord("a"), aSign(","), aWord("b")}, "a , b"}, {[]Token{aNumber("1"), aPath("/"), aKey("a.*"), aSign("*")}, "1 / a.* *"}, {[]Token{aWord("a"), aSign("="), aNumber("1"), aSign(";"), aSign(")"), aWord("b")}, "a = 1 ;\n) b"},
	} {
		if s := Text(c.l...); s != c.want {
			t.Errorf("Text(%s): %q; want %q", shown(c.l...), s, c.want)
		}
		texts(t, "tokens", c.l, true)
		texts(t, "tokens of other lines", in(7, c.l...), true)
		if Text(in(7, c.l...)...) != c.want {
			t.Errorf("lines change the text: %q", c.want)
		}
	}
	if w := Words(aWord("a"), aSign(";"), aKey("x.*"), aWord("a")); !slices.Equal(w, []string{"a", ";", "x.*", "a"}) {
		t.Errorf("Words: %q", w)
	}
	if Words() != nil {
		t.Errorf("Words of none: %q", Words())
	}
}

// P14.3: tokens that no text has are told as they are.
func TestStrangeTokens(t *testing.T) {
	strange := []Token{{}, {Word, "", 0}, {Word, "A", 1}, {Number, "-1", 1}, {Word, "a b", 1}, {Word, "a;", 1}, {Sign, ";;", 2}, {Word, "\n", 1}, {Word, " ", 1}, {9, "x", -5}, {-1, "#", 1 << 40}, {Sign, ";", -1}, {Word, strings.Repeat("a", 10000), 1}, {Key, "\x00\xff", 1}}
	for _, x := range strange {
		for _, y := range strange {
			for _, l := range [][]Token{{x}, {x, y}, {x, y, x}, {x, aSign(";"), y}} {
				texts(t, "strange tokens", l, false)
			}
			if got, want := Same([]Token{x}, []Token{y}), modelSame([]Token{x}, []Token{y}); got != want {
				t.Errorf("Same(%s, %s): %t", shown(x), shown(y), got)
			}
		}
	}
	if s := Text(Token{}, Token{}, Token{}); s != "  " {
		t.Errorf("Text of empty ones: %q", s)
	}
	many := make([]Token, 300000)
	if s := Text(many...); len(s) != len(many)-1 {
		t.Errorf("Text of very many: %d bytes", len(s))
	}
}

// P14.3: two lists are the same just if all tokens are, the lines aside.
func TestSame(t *testing.T) {
	l := []Token{{Word, "a", 1}, {Number, "1", 1}, {Sign, ";", 2}}
	for _, c := range []struct {
		a, b []Token
		want bool
	}{
		{nil, nil, true}, {nil, []Token{}, true}, {nil, []Token{{}}, false}, {l, nil, false}, {l, slices.Clone(l), true}, {l, in(9, l...), true}, {l, l[:2], false}, {l, l[1:], false}, {l, append(slices.Clone(l), Token{}), false}, {l, []Token{l[1], l[0], l[2]}, false}, {l, []Token{l[0], l[1], l[1]}, false}, {l, []Token{l[1], l[1], l[2]}, false},
		{[]Token{{Word, "a", 1}}, []Token{{Key, "a", 1}}, false}, {[]Token{{Word, "a", 1}}, []Token{{Word, "b", 1}}, false}, {[]Token{{Word, "a", 1}}, []Token{{Word, "a ", 1}}, false}, {[]Token{{Word, "a", 1}}, []Token{{Word, "a", -7}}, true}, {[]Token{{Sign, "*", 1}}, []Token{{Path, "*", 1}}, false},
		{[]Token{{Word, "a", 0}, {Word, "b", 0}}, []Token{{Word, "ab", 0}}, false}, {[]Token{{}, {}}, []Token{{}}, false},
	} {
		if Same(c.a, c.b) != c.want || Same(c.b, c.a) != c.want || modelSame(c.a, c.b) != c.want {
			t.Errorf("Same(%s, %s): not %t", shown(c.a...), shown(c.b...), c.want)
		}
	}
}

// Rule 7: tokens that are handed in are neither changed nor kept, and answers
// are new memory.
func TestMemory(t *testing.T) {
	const s = "allow read on /a/*;\ndeny get on x.k if revision < 3;"
	l, again := tokensOf(t, s), tokensOf(t, s)
	was := slices.Clone(l)
	words, more := Words(l...), Words(l...)
	text := Text(l...)
	Same(l, again)
	if !slices.Equal(l, was) {
		t.Errorf("what was handed in is changed: %s", shown(l...))
	}
	for i := range l[:cap(l)] {
		l[:cap(l)][i] = Token{Sign, "scrub", 9}
	}
	for i := range words[:cap(words)] {
		words[:cap(words)][i] = "scrub"
	}
	if !slices.Equal(again, was) || !slices.Equal(tokensOf(t, s), was) || !slices.Equal(more, Words(was...)) || text != Text(was...) {
		t.Errorf("a change of one answer changes another: %s, %q", shown(again...), more)
	}
	roomy := append(make([]Token, 0, 100), was...)
	Text(roomy...)
	Words(roomy...)
	Same(roomy, was)
	if slices.ContainsFunc(roomy[len(roomy):cap(roomy)], func(x Token) bool { return x != Token{} }) {
		t.Errorf("what is behind what was handed in is changed: %s", shown(roomy[:cap(roomy)]...))
	}
}
