package parser

import (
	"slices"
	"strconv"
	"strings"
	"testing"

	"creel/api"
	"creel/lexer"
)

// The nodes of conditions' trees.

func tree(op int, l ...Cond) Cond    { return Cond{Op: op, L: l} }
func asked(op int, name string) Cond { return Cond{Op: op, A: name} }
func compared(op, n int) Cond        { return Cond{Op: op, N: n} }

// rule is one that allows running, with a condition.
func rule(c Cond) Rule { return Rule{true, []string{"run"}, "/", c} }

// ifs is the text of such a rule.
func ifs(cond string) string { return "allow run on / if " + cond + ";" }

// P15.1: whole texts, and their rules.
func TestPolicies(t *testing.T) {
	for _, c := range []struct {
		s    string
		want []Rule
	}{
		{"", nil}, {" \t\n# note", nil}, {"\n\n", nil},
		{"allow read on /;", []Rule{{true, []string{"read"}, "/", Cond{}}}},
		{"deny read on /;", []Rule{{false, []string{"read"}, "/", Cond{}}}},
		{"allow run,write , read on /a/b;", []Rule{{true, []string{"run", "write", "read"}, "/a/b", Cond{}}}},
		{"allow\nput #x\n,get\non\nx.y\n;\n", []Rule{{true, []string{"put", "get"}, "x.y", Cond{}}}},
		{"deny slot, plug on *;allow plug on net;deny slot on slot;", []Rule{{false, []string{"slot", "plug"}, "*", Cond{}}, {true, []string{"plug"}, "net", Cond{}}, {false, []string{"slot"}, "slot", Cond{}}}},
		{"allow read on /*;allow read on /*;", []Rule{{true, []string{"read"}, "/*", Cond{}}, {true, []string{"read"}, "/*", Cond{}}}},
		{"deny put on x.* if not (package = a or revision < 3);", []Rule{{false, []string{"put"}, "x.*", tree(3, tree(1, asked(5, "a"), compared(6, 3)))}}},
		{"allow plug on * if has hook install;\ndeny plug on *;", []Rule{{true, []string{"plug"}, "*", asked(11, "install")}, {false, []string{"plug"}, "*", Cond{}}}},
	} {
		tells(t, "a whole text", c.s, c.want, 0, api.OK)
		held(t, "a whole text", c.s)
	}
}

// P15.1: conditions, their trees, and (P15.2, P15.3) their texts, how deep they
// are, and how many nodes they have.
func TestConditions(t *testing.T) {
	a, b, c, d := asked(4, "a"), asked(5, "b"), asked(9, "c"), compared(6, 1)
	for _, x := range []struct {
		s            string
		want         Cond
		text         string // that of s, if it is empty
		depth, count int
	}{
		{"publisher = a", a, "", 1, 1}, {"package=b", b, "package = b", 1, 1}, {"has plug c", c, "", 1, 1}, {"has slot x", asked(10, "x"), "", 1, 1}, {"has hook x", asked(11, "x"), "", 1, 1},
		{"revision < 1", d, "", 1, 1}, {"revision = 0", compared(7, 0), "", 1, 1}, {"revision > 999999999", compared(8, 999999999), "", 1, 1}, {"revision<007", compared(6, 7), "revision < 7", 1, 1}, {"revision = 000000000", compared(7, 0), "revision = 0", 1, 1},
		{"publisher = a or package = b", tree(1, a, b), "", 1, 3}, {"publisher = a and package = b", tree(2, a, b), "", 1, 3}, {"publisher = a or publisher = a or publisher = a", tree(1, a, a, a), "", 1, 4}, {"publisher = a and package = b and has plug c and revision < 1", tree(2, a, b, c, d), "", 1, 5},
		{"publisher = a and package = b or has plug c", tree(1, tree(2, a, b), c), "", 1, 5}, {"publisher = a or package = b and has plug c", tree(1, a, tree(2, b, c)), "", 1, 5}, {"publisher = a and package = b or has plug c and revision < 1", tree(1, tree(2, a, b), tree(2, c, d)), "", 1, 7},
		{"not publisher = a", tree(3, a), "", 2, 2}, {"not not publisher = a", tree(3, tree(3, a)), "", 3, 3}, {"not publisher = a and package = b", tree(2, tree(3, a), b), "", 2, 4}, {"publisher = a or not package = b or has plug c", tree(1, a, tree(3, b), c), "", 2, 5},
		{"(publisher = a)", a, "publisher = a", 1, 1}, {"((((((( publisher = a )))))))", a, "publisher = a", 1, 1}, {"not (publisher = a)", tree(3, a), "not publisher = a", 2, 2}, {"(not publisher = a)", tree(3, a), "not publisher = a", 2, 2}, {"not (not (publisher = a))", tree(3, tree(3, a)), "not not publisher = a", 3, 3},
		{"not (publisher = a or package = b)", tree(3, tree(1, a, b)), "", 3, 4}, {"not (publisher = a and package = b)", tree(3, tree(2, a, b)), "", 3, 4}, {"not ((publisher = a or package = b))", tree(3, tree(1, a, b)), "not (publisher = a or package = b)", 3, 4}, {"not (publisher = a and package = b) and has plug c", tree(2, tree(3, tree(2, a, b)), c), "", 3, 6},
		{"(publisher = a or package = b) and has plug c", tree(2, tree(1, a, b), c), "", 2, 5}, {"has plug c and (publisher = a or package = b)", tree(2, c, tree(1, a, b)), "", 2, 5}, {"(publisher = a or package = b) and (has plug c or revision < 1)", tree(2, tree(1, a, b), tree(1, c, d)), "", 2, 7},
		{"(publisher = a or package = b) or has plug c", tree(1, tree(1, a, b), c), "", 2, 5}, {"publisher = a or (package = b or has plug c)", tree(1, a, tree(1, b, c)), "", 2, 5}, {"(publisher = a and package = b) and has plug c", tree(2, tree(2, a, b), c), "", 2, 5}, {"publisher = a and (package = b and has plug c)", tree(2, a, tree(2, b, c)), "", 2, 5},
		{"(publisher = a and package = b) or has plug c", tree(1, tree(2, a, b), c), "publisher = a and package = b or has plug c", 1, 5}, {"(publisher = a or package = b)", tree(1, a, b), "publisher = a or package = b", 1, 3}, {"(publisher = a and package = b)", tree(2, a, b), "publisher = a and package = b", 1, 3}, {"(publisher = a) or (not (package = b))", tree(1, a, tree(3, b)), "publisher = a or not package = b", 2, 4},
		{"not (publisher = a or not (package = b or has plug c)) and revision < 1", tree(2, tree(3, tree(1, a, tree(3, tree(1, b, c)))), d), "", 5, 9},
		{"((publisher = a or package = b) and has plug c) and revision < 1", tree(2, tree(2, tree(1, a, b), c), d), "", 3, 7}, {"((publisher = a or package = b) and has plug c) or revision < 1", tree(1, tree(2, tree(1, a, b), c), d), "(publisher = a or package = b) and has plug c or revision < 1", 2, 7},
		{"not not not not not not not publisher = a", tree(3, tree(3, tree(3, tree(3, tree(3, tree(3, tree(3, a))))))), "", 8, 8},
	} {
		tells(t, "a condition", ifs(x.s), []Rule{rule(x.want)}, 0, api.OK)
		held(t, "a condition", ifs(x.s))
		if x.text == "" {
			x.text = x.s
		}
		if got := Print(x.want); got != x.text {
			t.Errorf("Print of %q: %q; want %q", x.s, got, x.text)
		}
		if got := Text(rule(x.want)); got != ifs(x.text)+"\n" {
			t.Errorf("Text of %q: %q", x.s, got)
		}
		if depth, count := Depth(x.want), Count(x.want); depth != x.depth || count != x.count {
			t.Errorf("%q: depth %d, %d nodes; want %d, %d", x.s, depth, count, x.depth, x.count)
		}
	}
}

// P15.1: no word is kept for a rule's own use: each stands wherever one may.
func TestNoWordIsKept(t *testing.T) {
	for _, w := range []string{"allow", "deny", "read", "write", "run", "get", "put", "plug", "slot", "hook", "on", "if", "or", "and", "not", "has", "publisher", "package", "revision", "a", "a-", "x_9", strings.Repeat("w", 24), strings.Repeat("w", 60)} {
		tells(t, "a word", "allow plug on "+w+";", []Rule{{true, []string{"plug"}, w, Cond{}}}, 0, api.OK)
		tells(t, "a word", "allow slot on "+w+" if has hook "+w+" or not publisher="+w+" and package="+w+";", []Rule{{true, []string{"slot"}, w, tree(1, asked(11, w), tree(2, tree(3, asked(4, w)), asked(5, w)))}}, 0, api.OK)
		held(t, "a word", "deny slot, plug on "+w+" if (has plug "+w+" or has slot "+w+") and publisher = "+w+";")
	}
}

// P15.1: which operations go with which, and which targets they have.
func TestTargets(t *testing.T) {
	long := strings.Repeat("n", 24)
	for _, target := range []string{
		"/", "/*", "/a", "/a/*", "/a/b/c/d/e/f/g/h", "/a/b/c/d/e/f/g/h/*", "/a/b/c/d/e/f/g/h/i", "/a/b/c/d/e/f/g/h/i/*", "/" + long, "/" + long + "/*", "/" + long + "n", "/" + long + "n/*", "/" + long + "/" + long + "/*",
		"//", "//*", "///*", "/a/", "/a//b", "/a//*", "/a/*/*", "/*/*", "/**", "/a*", "/*a", "/a/b*", "/*/a", "/a/*/", "/.", "/..", "/./*", "/../*", "/a/..", "/a/../*", "/...", "/.../*", "/.a", "/-", "/_", "/0",
		"x.y", "x.*", "x.y.z", "x..", "x...", "x....", "x..y", "x.-", "x._", "x.0", long + ".*", long + "." + long, long + "n.*", long + "n.y", "x." + long, "x." + long + "n", "x-_9.*",
		"x", "*", "x-y", "x_", "x9", "read", long, long + "n", strings.Repeat("n", 60), strings.Repeat("n", 61), "1", "0", "999999999", "(", ")", ",", ";", "=", "<", ">", "on", "if",
	} {
		for _, ops := range []string{"read", "write", "run", "get", "put", "plug", "slot", "read, run", "get, put", "slot, plug"} {
			held(t, "a target", "allow "+ops+" on\n"+target+"\n;")
			held(t, "a target, and a condition", "deny "+ops+" on "+target+" if has plug x;")
		}
	}
	for _, c := range []struct {
		ops string
		l   []string
		can bool
	}{
		{"read", []string{"/", "/*", "/a", "/a/*", "/a/b/c/d/e/f/g/h/*", "//*", "/...", "/" + long + "/*"}, true},
		{"run", []string{"//", "/a/", "/a*", "/*/*", "/../*", "/a/b/c/d/e/f/g/h/i", "/" + long + "n/*", "x", "*", "x.*", "1"}, false},
		{"get", []string{"x.y", "x.*", "x.y.z", "x....", long + "." + long}, true},
		{"put", []string{"x..", "x...", long + "n.*", "x." + long + "n", "x", "*", "/", "/*"}, false},
		{"plug", []string{"x", "*", "on", strings.Repeat("n", 60)}, true},
		{"slot", []string{"x.y", "x.*", "/", "/*", "1", "(", ";"}, false},
	} {
		for _, target := range c.l {
			_, line, e := Parse("allow\n" + c.ops + "\non\n" + target + "\n;")
			if want := map[bool]api.Errno{true: api.OK, false: api.ErrPolicy}[c.can]; e != want || line != map[bool]int{true: 0, false: 4}[c.can] {
				t.Errorf("%s on %s: %d, %d", c.ops, target, line, e)
			}
		}
	}
}

// P15.1: lists of up to four operations: each is of the first one's sort, and
// none is there twice.
func TestOperations(t *testing.T) {
	all := slices.Concat(slices.Concat(sorts...), []string{"hook", "x", "allow", "reads", "on", ",", "1", "/", "x.*", "*"})
	targets := []string{"/", "x.*", "x", "/"}
	var from func(l []string)
	from = func(l []string) {
		if len(l) > 0 {
			held(t, "operations", "allow "+strings.Join(l, "\n,")+" on "+targets[modelSort(l[0])]+";")
		}
		if len(l) == 4 {
			return
		}
		for _, op := range all {
			from(append(slices.Clone(l), op))
		}
	}
	from(nil)
	for _, c := range []struct {
		s    string
		line int
		e    api.Errno
	}{
		{"allow run,\nrun on /;", 2, api.ErrTwice}, {"allow run, read\n,\nrun", 3, api.ErrTwice}, {"allow run, write, read,\nread x", 2, api.ErrTwice}, {"deny get,put,\nput", 2, api.ErrTwice}, {"deny slot,\nslot,slot", 2, api.ErrTwice},
		{"allow run\nrun on /;", 2, api.ErrPolicy}, {"allow run,\nget on /;", 2, api.ErrPolicy}, {"allow get,\nslot on x.y;", 2, api.ErrPolicy}, {"allow plug, slot,\nrun on x;", 2, api.ErrPolicy}, {"allow plug,\nhook on x;", 2, api.ErrPolicy}, {"allow\nhook on x;", 2, api.ErrPolicy}, {"allow run,\non /;", 2, api.ErrPolicy}, {"allow\n, run on /;", 2, api.ErrPolicy}, {"allow run,\n,read on /;", 2, api.ErrPolicy}, {"allow\non /;", 2, api.ErrPolicy}, {"allow run,read,\nget,read on /;", 2, api.ErrPolicy},
	} {
		tells(t, "operations", c.s, nil, c.line, c.e)
		held(t, "operations", c.s)
	}
}

// P15.1: the first token that can't stand where it does is told, and where tokens
// are missing the last one's line.
func TestWrong(t *testing.T) {
	for _, c := range []struct {
		s    string
		line int
		e    api.Errno
	}{
		{"x", 1, api.ErrPolicy}, {"\n\n;", 3, api.ErrPolicy}, {"\nrun on /;", 2, api.ErrPolicy}, {"allow run on /;\n;", 2, api.ErrPolicy}, {"allow run on /;\nif", 2, api.ErrPolicy}, {"allow\nallow run on /;", 2, api.ErrPolicy}, {"allow run\n/;", 2, api.ErrPolicy}, {"allow run on\n;", 2, api.ErrPolicy}, {"allow run on /\n/;", 2, api.ErrPolicy}, {"allow run on /\nhas plug x;", 2, api.ErrPolicy}, {"allow run on / if\n;", 2, api.ErrPolicy}, {"allow run on / if\nx;", 2, api.ErrPolicy},
		{ifs("(\n)"), 2, api.ErrPolicy}, {ifs("not\n"), 2, api.ErrPolicy}, {ifs("not\n)"), 2, api.ErrPolicy}, {ifs("has plug x\n)"), 2, api.ErrPolicy}, {ifs("(has plug x\n"), 2, api.ErrPolicy}, {ifs("has plug x and\n"), 2, api.ErrPolicy}, {ifs("has plug x or\n"), 2, api.ErrPolicy}, {ifs("has plug x or\nand has plug y"), 2, api.ErrPolicy}, {ifs("has plug x\nnot has plug y"), 2, api.ErrPolicy}, {ifs("has plug x\nhas plug y"), 2, api.ErrPolicy}, {ifs("\nand has plug x"), 2, api.ErrPolicy}, {ifs("\nor has plug x"), 2, api.ErrPolicy}, {ifs("has plug x\n, has plug y"), 2, api.ErrPolicy}, {ifs("has plug x\nif has plug y"), 2, api.ErrPolicy}, {ifs("(has plug x)\n(has plug y)"), 2, api.ErrPolicy}, {ifs("((has plug x)\n"), 2, api.ErrPolicy}, {ifs("(has plug x))\n"), 1, api.ErrPolicy},
		{ifs("has\nx"), 2, api.ErrPolicy}, {ifs("has\npackage x"), 2, api.ErrPolicy}, {ifs("has\n= x"), 2, api.ErrPolicy}, {ifs("has plug\n= x"), 2, api.ErrPolicy}, {ifs("has plug\n1"), 2, api.ErrPolicy}, {ifs("has plug\nx.y"), 2, api.ErrPolicy}, {ifs("has plug\n*"), 2, api.ErrPolicy}, {ifs("has plug\n/x"), 2, api.ErrPolicy}, {ifs("has plug\n"), 2, api.ErrPolicy},
		{ifs("publisher\nx"), 2, api.ErrPolicy}, {ifs("publisher\n< x"), 2, api.ErrPolicy}, {ifs("package\n> x"), 2, api.ErrPolicy}, {ifs("package =\n1"), 2, api.ErrPolicy}, {ifs("publisher =\nx.y"), 2, api.ErrPolicy}, {ifs("publisher =\n="), 2, api.ErrPolicy}, {ifs("package =\n*"), 2, api.ErrPolicy}, {ifs("publisher =\n"), 2, api.ErrPolicy}, {ifs("publisher\nplug x"), 2, api.ErrPolicy},
		{ifs("revision\n1"), 2, api.ErrPolicy}, {ifs("revision <\n= 1"), 2, api.ErrPolicy}, {ifs("revision <\nx"), 2, api.ErrPolicy}, {ifs("revision =\n"), 2, api.ErrPolicy}, {ifs("revision =\n*"), 2, api.ErrPolicy}, {ifs("revision\nplug x"), 2, api.ErrPolicy}, {ifs("revision > 1\n2"), 2, api.ErrPolicy},
		{"allow", 1, api.ErrPolicy}, {"\nallow\n\n", 2, api.ErrPolicy}, {"allow\nrun # x\n", 2, api.ErrPolicy}, {"allow run\n,\n", 2, api.ErrPolicy}, {"allow run on", 1, api.ErrPolicy}, {"allow run\non\n/\n\n", 3, api.ErrPolicy}, {"allow run on / if", 1, api.ErrPolicy}, {"allow run on / if\nnot\n", 2, api.ErrPolicy}, {"allow run on / if\n(\n", 2, api.ErrPolicy}, {"allow run on / if\nhas\n", 2, api.ErrPolicy}, {"allow run on / if has\nplug\n", 2, api.ErrPolicy}, {"allow run on / if has plug\nx\n", 2, api.ErrPolicy}, {"allow run on / if has plug x\nand\n#;", 2, api.ErrPolicy}, {"allow run on / if (has plug x\n)\n\n", 2, api.ErrPolicy}, {"allow run on / if revision\n<\n", 2, api.ErrPolicy}, {"allow run on / if package\n=\n", 2, api.ErrPolicy},
		{"allow run on x; deny\nA", 2, api.ErrForm}, {"x\n1234567890", 2, api.ErrLong}, {"x" + strings.Repeat(" ", 8192), 0, api.ErrLong}, {"x\n" + strings.Repeat(";", 800), 2, api.ErrFull}, {"allow run on / if revision < 1234567890;", 1, api.ErrLong}, {"?", 1, api.ErrForm}, {"allow read on /" + strings.Repeat("a", 60) + ";", 1, api.ErrLong},
		{"allow run, run on x if\n;", 1, api.ErrTwice}, {"allow run on x, run\n;", 1, api.ErrPolicy}, {"x\nallow run, run", 1, api.ErrPolicy},
	} {
		tells(t, "what is wrong", c.s, nil, c.line, c.e)
		held(t, "what is wrong", c.s)
	}
}

// openings are all texts of so many of "not" and "(".
func openings(n int) [][]string {
	if n == 0 {
		return [][]string{nil}
	}
	var l [][]string
	for _, ahead := range openings(n - 1) {
		l = append(l, append(slices.Clone(ahead), "not"), append(slices.Clone(ahead), "("))
	}
	return l
}

// closings are the brackets that end such a text.
func closings(l []string) string {
	return strings.Repeat(")", strings.Count(strings.Join(l, ""), "("))
}

// P15.1: how deep a piece may stand, whatever token is there.
func TestDeep(t *testing.T) {
	for n := range 10 {
		for _, l := range openings(n) {
			s := strings.Join(l, "\n")
			e, line := api.OK, 0
			if n >= 8 {
				e, line = api.ErrLoop, 2+8
			}
			_, gotLine, got := Parse("allow run on / if\n" + s + "\nhas plug x" + closings(l) + ";")
			if got != e || gotLine != line {
				t.Errorf("%q: %d, %d; want %d, %d", s, gotLine, got, line, e)
			}
			for _, next := range []string{"has", "not", "(", ")", ";", "x", "1", "or", "*", ",", "publisher", "if", "allow", "/", "x.*"} {
				held(t, "deep", "allow run on / if\n"+s+"\n"+next)
				held(t, "deep, behind others", "allow run on / if has plug x and not\n(has slot y or not publisher = z\nand "+s+"\n"+next+" x")
			}
			held(t, "deep, and nothing", "allow run on / if\n"+s+"\n")
		}
	}
	eight := "allow run on / if " + strings.Repeat("not ", 8)
	tells(t, "missing", eight, nil, 1, api.ErrPolicy)
	for _, token := range []string{"x", ";", ")", "and", "has", "1", "/", "x.*", "*", "not", "("} {
		tells(t, "whichever", eight+"\n"+token, nil, 2, api.ErrLoop)
		tells(t, "whichever", "allow run on / if "+strings.Repeat("(", 8)+"\n"+token+"\nx", nil, 2, api.ErrLoop)
	}
	held(t, "deep again and again", ifs(strings.Repeat("not not not not not not not has plug x and (((((((has plug y))))))) or ", 9)+"not (not (not (not has plug z)))"))
	tells(t, "what was deep isn't any more", ifs(strings.Repeat("(", 7)+"has plug x"+strings.Repeat(")", 7)+" and "+strings.Repeat("not ", 7)+"has plug x and has plug x"), []Rule{rule(tree(2, asked(9, "x"), tree(3, tree(3, tree(3, tree(3, tree(3, tree(3, tree(3, asked(9, "x")))))))), asked(9, "x")))}, 0, api.OK)
}

// P15.1: how many rules there may be.
func TestCount(t *testing.T) {
	const one = "allow run on /;\n"
	for n := range 45 {
		l, line, e := Parse(strings.Repeat(one, n))
		if n <= 40 && (e != api.OK || line != 0 || len(l) != n) || n > 40 && (e != api.ErrFull || line != 41 || l != nil) {
			t.Errorf("%d rules: %d, %d, %d", n, len(l), line, e)
		}
		held(t, "many rules", strings.Repeat(one, n))
	}
	full := strings.Repeat(one, 40)
	for _, c := range []struct {
		behind string
		line   int
		e      api.Errno
	}{
		{"deny", 41, api.ErrFull}, {"\n\nallow", 43, api.ErrFull}, {"deny\n\nx", 41, api.ErrFull}, {"deny run, run on /;", 41, api.ErrFull}, {"# deny\n\ndeny\nget on /", 43, api.ErrFull}, {"x", 41, api.ErrPolicy}, {"\n;", 42, api.ErrPolicy}, {"run on /;", 41, api.ErrPolicy}, {"# x", 0, api.OK}, {"\n \n", 0, api.OK}, {"allow\nA", 42, api.ErrForm},
	} {
		_, line, e := held(t, "behind 40 rules", full+c.behind)
		if line != c.line || e != c.e {
			t.Errorf("behind 40 rules: %q: %d, %d", c.behind, line, e)
		}
	}
	tells(t, "what is wrong ahead of the 41st", strings.Repeat(one, 39)+"allow run,\nrun on /;"+one+one, nil, 41, api.ErrTwice)
	tells(t, "what is wrong ahead of the 41st", strings.Repeat(one, 39)+"allow run\n;"+one+one, nil, 41, api.ErrPolicy)
	tells(t, "the 40th goes on", strings.Repeat(one, 39)+"allow run on /\nif\n", nil, 41, api.ErrPolicy)
	// All tokens that a text may have: 40 rules of 20.
	rich := strings.Repeat("allow read,write on / if has plug a or not revision<3 and package=b;\n", 40)
	if l, _, e := lexer.Tokens(rich); len(l) != 800 || e != api.OK {
		t.Fatalf("not all tokens: %d, %d", len(l), e)
	}
	if l, _, e := held(t, "all tokens", rich); len(l) != 40 || e != api.OK {
		t.Errorf("all tokens: %d, %d", len(l), e)
	}
}

// P15.2: texts of rules, by case.
func TestText(t *testing.T) {
	x := asked(9, "x")
	for _, c := range []struct {
		l    []Rule
		want string
	}{
		{nil, ""}, {[]Rule{}, ""},
		{[]Rule{{true, []string{"read"}, "/", Cond{}}}, "allow read on /;\n"},
		{[]Rule{{false, []string{"read", "write", "run"}, "/a/*", Cond{}}}, "deny read, write, run on /a/*;\n"},
		{[]Rule{{false, []string{"put", "get"}, "x.*", x}, {true, []string{"slot"}, "*", tree(3, x)}}, "deny put, get on x.* if has plug x;\nallow slot on * if not has plug x;\n"},
		{[]Rule{rule(Cond{}), rule(x), rule(Cond{})}, "allow run on /;\nallow run on / if has plug x;\nallow run on /;\n"},
		{[]Rule{rule(tree(2, x, tree(1, x, x))), rule(x)}, "allow run on / if has plug x and (has plug x or has plug x);\nallow run on / if has plug x;\n"},
	} {
		if got := Text(c.l...); got != c.want {
			t.Errorf("Text(%s): %q; want %q", shown(c.l...), got, c.want)
		}
		texts(t, "rules", c.l...)
	}
	// More rules than a policy has, and longer ones than it has, have a text.
	many := slices.Repeat([]Rule{rule(x)}, 3000)
	if got := Text(many...); got != strings.Repeat(ifs("has plug x")+"\n", 3000) {
		t.Errorf("Text of many rules: %d bytes", len(got))
	}
	texts(t, "41 rules", many[:41]...)
	texts(t, "too long", many[:300]...)
}

// P15.4: texts are read as the same rules, also at the edges of what may be read.
func TestTextAgain(t *testing.T) {
	l := asked(11, strings.Repeat("w", 60))
	for _, s := range []string{
		ifs("publisher=a"), strings.Repeat(ifs("(revision>000000001)or(revision<1)and(not(has hook x))"), 30),
		"deny get,put on x.*if(package=if)or((publisher=or and not((publisher=and))));", ifs(Print(tree(1, l, l, l))), ifs(strings.Repeat("(", 7) + Print(tree(2, l, l)) + strings.Repeat(")", 7) + "and has plug x"),
	} {
		read, _, e := held(t, "a text", s)
		if e != api.OK {
			t.Errorf("a text that isn't read: %q, %d", s, e)
		}
		again, line, e := Parse(Text(read...))
		if !Same(read, again) || line != 0 || e != api.OK {
			t.Errorf("%q: %q, %d, %d", s, Text(again...), line, e)
		}
		if Text(again...) != Text(read...) {
			t.Errorf("not the same text: %q, %q", Text(again...), Text(read...))
		}
	}
}

// P15.3: what is the same.
func TestSame(t *testing.T) {
	c := tree(1, asked(4, "a"), tree(3, compared(6, 1)))
	plain := Rule{true, []string{"read", "run"}, "/a", c}
	others := []Rule{
		{false, []string{"read", "run"}, "/a", c}, {true, []string{"run", "read"}, "/a", c}, {true, []string{"read"}, "/a", c}, {true, []string{"read", "run", "run"}, "/a", c}, {true, nil, "/a", c}, {true, []string{"read", "write"}, "/a", c}, {true, []string{"read", "run"}, "/b", c}, {true, []string{"read", "run"}, "", c},
	}
	for _, x := range []Cond{
		{}, c.L[0], tree(1), tree(2, c.L...), tree(1, c.L[0]), tree(1, c.L[1], c.L[0]), tree(1, c.L[0], c.L[1], c.L[1]), {Op: 1, A: "x", L: c.L}, {Op: 1, N: 1, L: c.L}, tree(1, asked(5, "a"), c.L[1]), tree(1, asked(4, "b"), c.L[1]), tree(1, Cond{Op: 4, A: "a", N: 1}, c.L[1]), tree(1, c.L[0], tree(3, compared(6, 2))), tree(1, c.L[0], tree(3, compared(7, 1))), tree(1, c.L[0], tree(3)), tree(1, c.L[0], tree(3, Cond{Op: 6, N: 1, L: []Cond{{}}})),
	} {
		others = append(others, Rule{true, []string{"read", "run"}, "/a", x})
	}
	all := append([]Rule{plain}, others...)
	for i, x := range all {
		for j, y := range all {
			if got := Same([]Rule{x}, []Rule{y}); got != (i == j) {
				t.Errorf("Same(%s, %s): %t", shown(x), shown(y), got)
			}
			if got := Same([]Rule{plain, x}, []Rule{plain, y}); got != (i == j) {
				t.Errorf("Same of the second ones, %s and %s: %t", shown(x), shown(y), got)
			}
		}
	}
	for _, c := range []struct {
		a, b []Rule
		want bool
	}{
		{nil, nil, true}, {nil, []Rule{}, true}, {nil, []Rule{{}}, false}, {[]Rule{{}}, nil, false}, {[]Rule{{}}, []Rule{{}}, true}, {[]Rule{{Ops: []string{}, If: Cond{L: []Cond{}}}}, []Rule{{}}, true}, {[]Rule{plain}, []Rule{plain, plain}, false}, {[]Rule{plain, others[0]}, []Rule{others[0], plain}, false},
	} {
		if got := Same(c.a, c.b); got != c.want {
			t.Errorf("Same(%s, %s): %t", shown(c.a...), shown(c.b...), got)
		}
	}
}

// P15.3: operations' sorts.
func TestSort(t *testing.T) {
	for op, want := range map[string]int{"read": 0, "write": 0, "run": 0, "get": 1, "put": 1, "plug": 2, "slot": 2, "hook": 3, "": 3, "Read": 3, "reads": 3, " run": 3, "pu": 3, "allow": 3, "on": 3, "slot\x00": 3, "x": 3} {
		if got := Sort(op); got != want {
			t.Errorf("Sort(%q): %d", op, got)
		}
	}
}

// P15.3: how deep a condition is told to be, up to 9.
func TestDepth(t *testing.T) {
	x := asked(9, "x")
	nots := func(n int, c Cond) Cond {
		for range n {
			c = tree(3, c)
		}
		return c
	}
	for n := range 40 {
		if got := Depth(nots(n, x)); got != min(1+n, 9) {
			t.Errorf("%d times not: %d", n, got)
		}
		for op := 1; op <= 3; op++ {
			c := tree(1, x, x)
			for range n {
				c = tree(op, c)
			}
			want := 1 + n
			if op == 3 && n > 0 {
				want++ // brackets stand around the innermost one alone
			}
			if got := Depth(c); got != min(want, 9) {
				t.Errorf("%d times %d of or: %d; want %d", n, op, got, min(want, 9))
			}
		}
		mixed := x
		for i := range n {
			mixed = tree(1+i%2, mixed, x)
		}
		// Brackets stand around each or within and, and around no and within or.
		if got := Depth(mixed); got != min(1+n/2, 9) {
			t.Errorf("%d times or and and: %d", n, got)
		}
	}
	// The deepest of the parts counts, whichever it is.
	for _, l := range [][]Cond{{nots(3, x), x, x}, {x, nots(3, x), x}, {x, x, nots(3, x)}, {nots(3, x), nots(2, x)}, {tree(1, x, x), nots(3, x)}, {nots(3, x), tree(1, x, x)}} {
		for op := range 2 {
			if got := Depth(tree(1+op, l...)); got != 4 {
				t.Errorf("%s: %d", Print(tree(1+op, l...)), got)
			}
		}
	}
}

// P1: of conditions and rules that no text has, all is told, too.
func TestStrange(t *testing.T) {
	x := asked(9, "x")
	for _, c := range []struct {
		c            Cond
		text         string
		depth, count int
	}{
		{Cond{}, "", 0, 0}, {Cond{A: "x", N: 1, L: []Cond{x}}, "", 0, 0}, {Cond{Op: 12, A: "x"}, "", 1, 1}, {Cond{Op: -1}, "", 1, 1}, {Cond{Op: 1 << 40}, "", 1, 1},
		{tree(1), "", 1, 1}, {tree(2), "", 1, 1}, {tree(3), "not", 1, 1}, {tree(1, x), "has plug x", 1, 2}, {tree(2, x), "has plug x", 1, 2}, {tree(2, tree(1, x)), "(has plug x)", 2, 3}, {tree(1, Cond{}), "", 1, 1}, {tree(3, Cond{}), "not", 1, 1}, {tree(2, tree(1), x), "() and has plug x", 2, 3}, {tree(3, tree(2), tree(1, x)), "not () (has plug x)", 3, 4}, {Cond{Op: 4, A: "a", L: []Cond{tree(3, x)}}, "publisher = a", 1, 3},
		{compared(6, -5), "revision < -5", 1, 1}, {compared(8, -1<<63), "revision > -9223372036854775808", 1, 1}, {asked(4, "A b"), "publisher = A b", 1, 1}, {asked(4, "("), "publisher = (", 1, 1}, {tree(1, asked(4, "("), x), "publisher = ( or has plug x", 1, 3},
	} {
		if got := Print(c.c); got != c.text {
			t.Errorf("Print(%s): %q; want %q", shownCond(c.c), got, c.text)
		}
		if depth, count := Depth(c.c), Count(c.c); depth != c.depth || count != c.count {
			t.Errorf("%s: %d, %d; want %d, %d", shownCond(c.c), depth, count, c.depth, c.count)
		}
	}
	if got := Text(Rule{}); got != "deny on ;\n" {
		t.Errorf("Text of nothing: %q", got)
	}
	if got := Text(Rule{}, rule(Cond{A: "x", L: []Cond{x}}), Rule{true, []string{"a b", ","}, ";", tree(3)}); got != "deny on ;\nallow run on /;\nallow a b, , on ; if not;\n" {
		t.Errorf("Text of strange rules: %q", got)
	}
}

// P1: all that a text may nest, and much more, is told.
func TestVeryDeep(t *testing.T) {
	const deep = 1 << 16
	for op := 1; op <= 3; op++ {
		c, d := asked(9, "x"), asked(9, "y")
		for range deep {
			c, d = tree(op, c), tree(op, d)
		}
		want := strings.Repeat("not ", deep) + "has plug x"
		if op < 3 {
			want = strings.Repeat("(", deep-1) + "has plug x" + strings.Repeat(")", deep-1)
		}
		if Print(c) != want || Text(rule(c)) != ifs(want)+"\n" {
			t.Errorf("Print of very many of %d: %d bytes; want %d", op, len(Print(c)), len(want))
		}
		if Depth(c) != 9 || Count(c) != deep+1 {
			t.Errorf("very many of %d: depth %d, %d nodes", op, Depth(c), Count(c))
		}
		if !Same([]Rule{rule(c)}, []Rule{rule(c)}) || Same([]Rule{rule(c)}, []Rule{rule(d)}) {
			t.Errorf("very many of %d aren't held against others", op)
		}
	}
	for op := 1; op <= 3; op++ {
		own := Cond{Op: op, L: make([]Cond, 3)}
		for i := range own.L {
			own.L[i] = own
		}
		if got := Depth(own); got != 9 {
			t.Errorf("a condition of %d that holds itself: %d", op, got)
		}
	}
	wide := Cond{Op: 1}
	for i := range 100000 {
		wide.L = append(wide.L, compared(7, i))
	}
	if s := Print(wide); !strings.HasSuffix(s, " or revision = "+strconv.Itoa(99999)) || Count(wide) != 100001 || Depth(wide) != 1 {
		t.Errorf("very many parts: %d bytes, %d, %d", len(s), Count(wide), Depth(wide))
	}
}
