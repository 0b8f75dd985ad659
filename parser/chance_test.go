package parser

import (
	"fmt"
	"math/rand"
	"slices"
	"strings"
	"testing"

	"creel/api"
	"creel/lexer"
)

// grow holds a text of lines, each of which is one of these, and all such texts
// that go on from there by up to so many more; where something is wrong it goes on
// by one, which changes nothing.
func grow(t *testing.T, ahead string, lines []string, more int) {
	_, wantLine, wantE := held(t, "all texts", ahead)
	if more == 0 {
		return
	}
	missing := wantE == api.OK || wantLine == strings.Count(ahead, "\n") && wantE == api.ErrPolicy && goesOn(ahead)
	if !missing {
		tells(t, "behind what is wrong", ahead+lines[more%len(lines)]+"\n", nil, wantLine, wantE)
		return
	}
	for _, line := range lines {
		grow(t, ahead+line+"\n", lines, more-1)
	}
}

// goesOn tells whether nothing of a text is wrong but that some is missing.
func goesOn(s string) bool {
	l, _, _ := lexer.Tokens(s)
	at, _ := modelWrong(l)
	return at == len(l)
}

// P15.1 to P15.4: all texts of some words that matter, by the model.
func TestAllTexts(t *testing.T) {
	for _, c := range []struct {
		ahead string
		lines []string
		more  int
	}{
		{"", []string{"allow", "deny", "read", "run", "get", "plug", ",", "on", "/", "x.*", "x", "*", "if", ";", "has", "slot", "=", "1", "not"}, 8},
		{"allow run on /\n", []string{"if", "not", "(", ")", "and", "or", "has", "plug", "x", ";", "1"}, 11},
		{"allow run on /\nif\n", []string{"not", "(", ")", "and", "or", "has plug x", "revision < 2", ";"}, 8},
		{"allow run on /\nif\n", []string{"not", "has plug x", "or", "and", "(", ")", ";\nallow run on /;"}, 9},
		{"allow run on /\nif\n", []string{"publisher", "package", "revision", "has", "=", "<", ">", "plug", "slot", "hook", "x", "1", "x.y", "/", "*", "not", ";"}, 5},
	} {
		grow(t, c.ahead, c.lines, c.more)
	}
}

// picker picks by chance, the same way each time.
type picker struct{ *rand.Rand }

func newPicker(seed int64) picker { return picker{rand.New(rand.NewSource(seed))} }

// of picks one of a list.
func of[T any](r picker, l ...T) T { return l[r.Intn(len(l))] }

// word picks one, often one that means something elsewhere.
func (r picker) word() string {
	return of(r, "a", "net", "x-1_", "or", "and", "not", "if", "on", "has", "plug", "revision", "allow", strings.Repeat("w", 1+r.Intn(24)))
}

// number picks one that a text can have.
func (r picker) number() int { return of(r, r.Intn(4), r.Intn(1000000), 999999999, 0) }

// cond picks a condition that is right, at most so deep.
func (r picker) cond(most int) Cond {
	op := 4 + r.Intn(8)
	if most > 1 && r.Intn(3) > 0 {
		op = 1 + r.Intn(3)
	}
	switch op {
	case 1, 2:
		c := Cond{Op: op}
		for range 2 + r.Intn(2) + r.Intn(2) {
			c.L = append(c.L, r.cond(most-1))
		}
		return c
	case 3:
		return tree(op, r.cond(most-1))
	case 6, 7, 8:
		return compared(op, r.number())
	}
	return asked(op, r.word())
}

// thin picks a condition that is right, of which one part alone goes on, so often.
func (r picker) thin(more int) Cond {
	if more == 0 {
		return r.cond(1)
	}
	op := 1 + r.Intn(3)
	if op == 3 {
		return tree(op, r.thin(more-1))
	}
	c := tree(op, r.thin(more-1), r.cond(1))
	r.Shuffle(2, func(i, j int) { c.L[i], c.L[j] = c.L[j], c.L[i] })
	return c
}

// rule picks one that is right, with a condition at most so deep; or with a thin
// one that may be deeper.
func (r picker) rule(most int) Rule {
	sort := r.Intn(3)
	x := Rule{Allow: r.Intn(2) == 0, Ops: slices.Clone(sorts[sort])}
	r.Shuffle(len(x.Ops), func(i, j int) { x.Ops[i], x.Ops[j] = x.Ops[j], x.Ops[i] })
	x.Ops = x.Ops[:1+r.Intn(len(x.Ops))]
	switch sort {
	case 0:
		x.Target = of(r, "/", "/*", "/a", "/a/b.c/*", "/pkg/*")
	case 1:
		x.Target = of(r, "x.*", "x.y", "x-1.y.z")
	case 2:
		x.Target = of(r, "*", r.word())
	}
	switch r.Intn(8) {
	case 0, 1:
	case 2:
		x.If = r.thin(r.Intn(12))
	default:
		x.If = r.cond(most)
	}
	return x
}

// loose is a text of the tokens of a text, with brackets around some pieces, and
// with something else between the tokens.
func (r picker) loose(s string) string {
	l, _, _ := lexer.Tokens(s)
	var loose strings.Builder
	for i := 0; i < len(l); i++ {
		text := l[i].Text
		asks := i+2 < len(l) && (text == "publisher" || text == "package" || text == "revision" || text == "has") && slices.Contains([]string{"=", "<", ">", "plug", "slot", "hook"}, l[i+1].Text)
		begins := i > 0 && slices.Contains([]string{"if", "not", "and", "or", "("}, l[i-1].Text)
		if asks && begins && l[i+2].Kind <= lexer.Number && r.Intn(3) == 0 {
			text = "(" + text + " " + l[i+1].Text + r.gap() + l[i+2].Text + ")"
			i += 2
		}
		loose.WriteString(text + r.gap())
	}
	return loose.String()
}

// gap picks what stands between two tokens.
func (r picker) gap() string { return of(r, " ", " ", " ", "\n", "\t ", "# ; x\n", "\n\n") }

// policy picks some rules that are right.
func (r picker) policy(rules, deep int) []Rule {
	var l []Rule
	for range r.Intn(rules + 1) {
		l = append(l, r.rule(1+r.Intn(deep)))
	}
	return l
}

// P15.1 to P15.4: what is told of rules by chance, and that their texts, however
// they are laid out, are read as them.
func TestRulesByChance(t *testing.T) {
	r := newPicker(15)
	met, depths := map[api.Errno]int{}, map[int]int{}
	for range 6000 {
		l := r.policy(of(r, 1, 4, 12, 55), of(r, 1, 2, 4, 7))
		texts(t, "by chance", l...)
		for _, x := range l {
			conds(t, "by chance", x.If)
			depths[Depth(x.If)]++
		}
		s := Text(l...)
		read, _, e := held(t, "by chance", s)
		met[e]++
		if e == api.OK && shown(read...) != shown(l...) {
			t.Errorf("Parse(%.300q): %.300s; want %.300s", s, shown(read...), shown(l...))
		}
		loose := r.loose(s)
		laid, _, laidE := held(t, "by chance, loose", loose)
		if e == api.OK && laidE == api.OK && !Same(laid, l) {
			t.Errorf("Parse(%.300q): %.300s; want %.300s", loose, shown(laid...), shown(l...))
		}
	}
	for _, e := range []api.Errno{api.OK, api.ErrLoop, api.ErrFull, api.ErrLong} {
		if met[e] < 20 {
			t.Errorf("chance has met %d so often: %d", e, met[e])
		}
	}
	for depth := range 10 {
		if depths[depth] < 20 {
			t.Errorf("chance has met depth %d so often: %d", depth, depths[depth])
		}
	}
}

// hurt is a text of which a token, or a byte, is another one.
func (r picker) hurt(s string) string {
	l, _, _ := lexer.Tokens(s)
	words := lexer.Words(l...)
	for range 1 + r.Intn(2) {
		at := r.Intn(len(words) + 1)
		end := at + r.Intn(min(4, len(words)-at+1))
		token := of(r, "allow", "deny", "read", "run", "get", "put", "plug", "slot", ",", "on", "if", ";", "not", "(", ")", "and", "or", "has", "publisher", "package", "revision", "=", "<", ">", "*", "1", "x", "/", "/a/*", "x.y", "/a//b", "hook", "A", "1234567890")
		switch r.Intn(5) {
		case 0:
			words = slices.Delete(words, at, end)
		case 1:
			words = slices.Insert(words, at, token)
		case 2:
			words = slices.Replace(words, at, end, token)
		case 3:
			words = slices.Insert(words, end, slices.Clone(words[at:end])...)
		case 4:
			words = words[:at]
		}
	}
	var hurt strings.Builder
	for _, word := range words {
		hurt.WriteString(word + r.gap())
	}
	return hurt.String()
}

// P15.1: texts by chance in which something is wrong, by the model; each error,
// and many lines, are met.
func TestHurt(t *testing.T) {
	r := newPicker(51)
	met, lines := map[api.Errno]int{}, map[int]int{}
	for range 30000 {
		s := r.hurt(Text(r.policy(of(r, 1, 2, 4), of(r, 2, 4, 7))...))
		_, line, e := held(t, "hurt", s)
		met[e]++
		lines[line]++
	}
	for _, e := range []api.Errno{api.OK, api.ErrForm, api.ErrLong, api.ErrPolicy, api.ErrLoop, api.ErrTwice} {
		if met[e] < 50 {
			t.Errorf("chance has met %d so often: %d", e, met[e])
		}
	}
	for line := range 12 {
		if lines[line] < 50 {
			t.Errorf("chance has met line %d so often: %d", line, lines[line])
		}
	}
}

// P1: any bytes, and any tokens, are answered.
func TestAnyBytes(t *testing.T) {
	r := newPicker(7)
	for range 20000 {
		b := make([]byte, r.Intn(40))
		for i := range b {
			b[i] = of(r, byte(r.Intn(256)), "allow;on/*(),=<>#\n "[r.Intn(19)])
		}
		held(t, "any bytes", string(b))
		var words []string
		for range r.Intn(12) {
			words = append(words, r.hurt("x"))
		}
		held(t, "any tokens", strings.Join(words, " "))
	}
}

// answers are all that the calls answer of a text, as a text.
func answers(s string) string {
	l, line, e := Parse(s)
	all := fmt.Sprintf("%s %d %d %q", shown(l...), line, e, Text(l...))
	for _, x := range l {
		all += fmt.Sprintf(" %q %d %d", Print(x.If), Depth(x.If), Count(x.If))
	}
	return all
}

// P2: the same calls have the same answers, whatever was called between.
func TestSameAnswers(t *testing.T) {
	r := newPicker(2)
	for range 1000 {
		s := Text(r.policy(5, 4)...)
		other := r.hurt(s)
		first := answers(s)
		answers(other)
		if answers(s) != first {
			t.Errorf("not the same twice: %q", s)
		}
	}
}
