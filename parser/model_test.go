package parser

import (
	"fmt"
	"regexp"
	"slices"
	"strconv"
	"strings"
	"testing"

	"creel/api"
	"creel/lexer"
)

// What the package answers, told a second time from the chapter's words: whether
// a token can stand somewhere is told by a state and by what is open, and trees
// are made by splitting.

var (
	pathsText = regexp.MustCompile(`^(/|(/[a-z0-9._-]{1,24}){1,8})(/\*)?$`)
	keysText  = regexp.MustCompile(`^[a-z0-9_-]{1,24}\.(\*|[a-z0-9._-]{1,24})$`)
	wordText  = regexp.MustCompile(`^[a-z][a-z0-9_-]*$`)
)

// sorts are the operations, by their sorts.
var sorts = [][]string{{"read", "write", "run"}, {"get", "put"}, {"plug", "slot"}}

// modelSort is another Sort.
func modelSort(op string) int {
	for sort, l := range sorts {
		if slices.Contains(l, op) {
			return sort
		}
	}
	return 3
}

// modelTarget tells whether a token is a target of a sort's operations.
func modelTarget(sort int, t lexer.Token) bool {
	switch {
	case sort == 0:
		dotted := strings.Contains(t.Text+"/", "/./") || strings.Contains(t.Text+"/", "/../")
		return t.Kind == lexer.Path && (pathsText.MatchString(t.Text) || t.Text == "/*") && !dotted
	case sort == 1:
		key := t.Text[strings.Index(t.Text, ".")+1:]
		return t.Kind == lexer.Key && keysText.MatchString(t.Text) && key != "." && key != ".."
	}
	return t.Kind == lexer.Word || t.Kind == lexer.Sign && t.Text == "*"
}

// walk goes from token to token.
type walk struct {
	state   string   // what is expected
	rules   int      // how many were begun
	ops     []string // the rule's
	open    []string // the "not" and "(" that wait for what is behind them
	deepest int      // where a piece began
}

// closes takes away each "not" whose piece is over.
func (w *walk) closes() {
	for len(w.open) > 0 && w.open[len(w.open)-1] == "not" {
		w.open = w.open[:len(w.open)-1]
	}
	w.state = "behind a piece"
}

// among goes on to a state by a token's text, if it is one of these.
func (w *walk) among(text string, next map[string]string) api.Errno {
	state, can := next[text]
	if !can {
		return api.ErrPolicy
	}
	w.state = state
	return api.OK
}

// when goes on to a state, if something is so.
func (w *walk) when(can bool, state string) api.Errno {
	if !can {
		return api.ErrPolicy
	}
	w.state = state
	return api.OK
}

// step goes over a token, or tells why it can't.
func (w *walk) step(t lexer.Token) api.Errno {
	switch w.state {
	case "rule":
		if e := w.among(t.Text, map[string]string{"allow": "operation", "deny": "operation"}); e != api.OK {
			return e
		}
		w.rules, w.ops = w.rules+1, nil
		if w.rules == 41 {
			return api.ErrFull
		}
	case "operation":
		sort := modelSort(t.Text)
		if sort == 3 || len(w.ops) > 0 && sort != modelSort(w.ops[0]) {
			return api.ErrPolicy
		}
		if slices.Contains(w.ops, t.Text) {
			return api.ErrTwice
		}
		w.ops, w.state = append(w.ops, t.Text), "behind an operation"
	case "behind an operation":
		return w.among(t.Text, map[string]string{",": "operation", "on": "target"})
	case "target":
		return w.when(modelTarget(modelSort(w.ops[0]), t), "behind a target")
	case "behind a target":
		return w.among(t.Text, map[string]string{"if": "piece", ";": "rule"})
	default:
		return w.inCondition(t)
	}
	return api.OK
}

// inCondition is step, in a condition.
func (w *walk) inCondition(t lexer.Token) api.Errno {
	switch w.state {
	case "piece":
		w.deepest = max(w.deepest, len(w.open)+1)
		if len(w.open) >= 8 {
			return api.ErrLoop
		}
		if t.Text == "not" || t.Text == "(" {
			w.open = append(w.open, t.Text)
			return api.OK
		}
		return w.among(t.Text, map[string]string{"publisher": "same", "package": "same", "revision": "compared", "has": "had"})
	case "same":
		return w.among(t.Text, map[string]string{"=": "word"})
	case "compared":
		return w.among(t.Text, map[string]string{"<": "number", "=": "number", ">": "number"})
	case "had":
		return w.among(t.Text, map[string]string{"plug": "word", "slot": "word", "hook": "word"})
	case "word", "number":
		kind := map[string]int{"word": lexer.Word, "number": lexer.Number}[w.state]
		if t.Kind != kind {
			return api.ErrPolicy
		}
		w.closes()
	case "behind a piece":
		last := len(w.open) - 1
		switch {
		case t.Text == ")" && last >= 0:
			w.open = w.open[:last]
			w.closes()
		case t.Text == ";" && last < 0:
			w.state = "rule"
		default:
			return w.among(t.Text, map[string]string{"and": "piece", "or": "piece"})
		}
	}
	return api.OK
}

// modelWrong tells the first token that is wrong, its place, and why; the place
// behind all, if some are missing, or all is well.
func modelWrong(l []lexer.Token) (int, api.Errno) {
	w := walk{state: "rule"}
	for i, t := range l {
		if e := w.step(t); e != api.OK {
			return i, e
		}
	}
	return len(l), w.when(w.state == "rule", "")
}

// modelParse is another Parse.
func modelParse(s string) ([]Rule, int, api.Errno) {
	l, line, e := lexer.Tokens(s)
	if e != api.OK {
		return nil, line, e
	}
	at, e := modelWrong(l)
	switch {
	case e == api.OK:
		return modelRules(l), 0, api.OK
	case len(l) == 0:
		return nil, 1, e
	}
	return nil, l[min(at, len(l)-1)].Line, e
}

// modelRules are the rules that right tokens are.
func modelRules(l []lexer.Token) []Rule {
	var rules []Rule
	for len(l) > 0 {
		end := slices.IndexFunc(l, func(t lexer.Token) bool { return t.Text == ";" })
		on := slices.IndexFunc(l, func(t lexer.Token) bool { return t.Text == "on" })
		x := Rule{Allow: l[0].Text == "allow", Target: l[on+1].Text}
		for i := 1; i < on; i += 2 {
			x.Ops = append(x.Ops, l[i].Text)
		}
		if end > on+2 {
			x.If = modelTree(modelItems(l[on+3 : end]))
		}
		rules = append(rules, x)
		l = l[end+1:]
	}
	return rules
}

// item is a word or sign that holds a condition together; or a piece that asks.
type item struct {
	text string
	asks Cond
}

// leads are the words ahead of what a piece asks for, by its Op.
var leads = map[int]string{
	4: "publisher =", 5: "package =", 6: "revision <", 7: "revision =", 8: "revision >", 9: "has plug", 10: "has slot", 11: "has hook",
}

// modelItems are the items that right tokens are.
func modelItems(l []lexer.Token) []item {
	var items []item
	for i := 0; i < len(l); i++ {
		x := item{text: l[i].Text}
		if !slices.Contains([]string{"or", "and", "not", "(", ")"}, x.text) {
			for op, lead := range leads {
				if lead == l[i].Text+" "+l[i+1].Text {
					x.asks = Cond{Op: op, A: l[i+2].Text}
				}
			}
			if x.asks.Op >= 6 && x.asks.Op <= 8 {
				x.asks.N, _ = strconv.Atoi(x.asks.A)
				x.asks.A = ""
			}
			x.text = ""
			i += 2
		}
		items = append(items, x)
	}
	return items
}

// split cuts items wherever a word stands, but for what is within brackets.
func split(l []item, word string) [][]item {
	var parts [][]item
	begin, open := 0, 0
	for i, x := range l {
		switch {
		case x.text == "(":
			open++
		case x.text == ")":
			open--
		case x.text == word && open == 0:
			parts = append(parts, l[begin:i])
			begin = i + 1
		}
	}
	return append(parts, l[begin:])
}

// modelTree is the tree that right items are.
func modelTree(l []item) Cond {
	for op, word := range []string{1: "or", 2: "and"} {
		if parts := split(l, word); op > 0 && len(parts) > 1 {
			c := Cond{Op: op}
			for _, part := range parts {
				c.L = append(c.L, modelTree(part))
			}
			return c
		}
	}
	switch l[0].text {
	case "not":
		return Cond{Op: 3, L: []Cond{modelTree(l[1:])}}
	case "(":
		return modelTree(l[1 : len(l)-1])
	}
	return l[0].asks
}

// modelPrint is another Print, of conditions that are right.
func modelPrint(c Cond) string {
	var parts []string
	for _, x := range c.L {
		s := modelPrint(x)
		// Around or within and, around or and and within not, around or within
		// or, and around and within and.
		if slices.Contains([][2]int{{1, 2}, {1, 3}, {2, 3}, {1, 1}, {2, 2}}, [2]int{x.Op, c.Op}) {
			s = "(" + s + ")"
		}
		parts = append(parts, s)
	}
	switch c.Op {
	case 0:
		return ""
	case 1:
		return strings.Join(parts, " or ")
	case 2:
		return strings.Join(parts, " and ")
	case 3:
		return "not " + strings.Join(parts, " ")
	case 6, 7, 8:
		return fmt.Sprintf("%s %d", leads[c.Op], c.N)
	}
	return leads[c.Op] + " " + c.A
}

// modelText is another Text, of rules whose conditions are right.
func modelText(l ...Rule) string {
	s := ""
	for _, x := range l {
		effect, cond := "deny", ""
		if x.Allow {
			effect = "allow"
		}
		if x.If.Op != 0 {
			cond = " if " + modelPrint(x.If)
		}
		s += fmt.Sprintf("%s %s on %s%s;\n", effect, strings.Join(x.Ops, ", "), x.Target, cond)
	}
	return s
}

// plainTokens are the tokens of a condition's text, be it as long as it may.
func plainTokens(s string) []lexer.Token {
	var l []lexer.Token
	for _, word := range strings.Fields(strings.NewReplacer("(", " ( ", ")", " ) ").Replace(s)) {
		t := lexer.Token{Kind: lexer.Number, Text: word}
		if wordText.MatchString(word) {
			t.Kind = lexer.Word
		}
		l = append(l, t)
	}
	return l
}

// modelDepth is another Depth, of a condition that is right: how deep the pieces
// of its text stand.
func modelDepth(c Cond) int {
	if c.Op == 0 {
		return 0
	}
	w := walk{state: "piece"}
	for _, t := range plainTokens(modelPrint(c)) {
		if w.step(t) != api.OK {
			break // deeper than any may stand
		}
	}
	return w.deepest
}

// modelCount is another Count, of a condition that is right.
func modelCount(c Cond) int {
	if c.Op == 0 {
		return 0
	}
	return strings.Count(shownCond(c), "[")
}

// shownCond is a condition as a text that no other one has.
func shownCond(c Cond) string {
	s := fmt.Sprintf("[%d %q %d", c.Op, c.A, c.N)
	for _, x := range c.L {
		s += " " + shownCond(x)
	}
	return s + "]"
}

// shown are rules as a text that no others have.
func shown(l ...Rule) string {
	s := ""
	for _, x := range l {
		s += fmt.Sprintf("%t %q on %q if %s; ", x.Allow, x.Ops, x.Target, shownCond(x.If))
	}
	return s
}

// tells wants Parse of a text to answer so; none beside an error.
func tells(t *testing.T, what, s string, want []Rule, wantLine int, wantE api.Errno) {
	t.Helper()
	l, line, e := Parse(s)
	if shown(l...) != shown(want...) || line != wantLine || e != wantE {
		t.Errorf("%s: Parse(%.300q): %.300s %d, %d; want %.300s %d, %d", what, s, shown(l...), line, e, shown(want...), wantLine, wantE)
	}
	if e != api.OK && l != nil {
		t.Errorf("%s: Parse(%.300q): %d, and %.300s", what, s, e, shown(l...))
	}
}

// conds wants Print, Depth and Count of a condition that is right to answer as
// the model does.
func conds(t *testing.T, what string, c Cond) {
	t.Helper()
	if got, want := Print(c), modelPrint(c); got != want {
		t.Errorf("%s: Print(%.300s): %.300q; want %.300q", what, shownCond(c), got, want)
	}
	if got, want := Depth(c), modelDepth(c); got != want {
		t.Errorf("%s: Depth of %.300q: %d; want %d", what, modelPrint(c), got, want)
	}
	if got, want := Count(c), modelCount(c); got != want {
		t.Errorf("%s: Count of %.300q: %d; want %d", what, modelPrint(c), got, want)
	}
}

// texts wants Text of rules that are right to answer as the model does, and to be
// read as the same rules; unless they are too deep, too many, or too long.
func texts(t *testing.T, what string, l ...Rule) {
	t.Helper()
	s := Text(l...)
	if want := modelText(l...); s != want {
		t.Errorf("%s: Text(%.300s): %.300q; want %.300q", what, shown(l...), s, want)
	}
	back, line, e := Parse(s)
	want, wantLine, wantE := modelParse(s)
	if shown(back...) != shown(want...) || line != wantLine || e != wantE {
		t.Errorf("%s: Parse(%.300q): %.300s %d, %d; want %.300s %d, %d", what, s, shown(back...), line, e, shown(want...), wantLine, wantE)
	}
	if e == api.OK && (!Same(back, l) || !Same(l, back) || shown(back...) != shown(l...)) {
		t.Errorf("%s: Parse(%.300q): %.300s; want %.300s", what, s, shown(back...), shown(l...))
	}
	if deep := slices.ContainsFunc(l, func(x Rule) bool { return Depth(x.If) > 8 }); deep && e == api.OK {
		t.Errorf("%s: too deep, and read: %.300q", what, s)
	} else if !deep && e == api.ErrLoop {
		t.Errorf("%s: not too deep, and not read: %.300q", what, s)
	}
}

// held holds what is asked of a text, and of its rules, against the model, and
// answers what that tells.
func held(t *testing.T, what, s string) ([]Rule, int, api.Errno) {
	t.Helper()
	l, line, e := modelParse(s)
	tells(t, what, s, l, line, e)
	if e != api.OK {
		return l, line, e
	}
	texts(t, what, l...)
	for _, x := range l {
		conds(t, what, x.If)
	}
	if text := Text(l...); len(text) <= 8192 {
		tells(t, what+", by its rules' text", text, l, 0, api.OK)
	}
	return l, line, e
}
