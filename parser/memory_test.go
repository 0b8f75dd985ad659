package parser

import (
	"slices"
	"testing"
)

// roomy is a condition whose lists are memory of its own, with room behind them.
func roomy(c Cond) Cond {
	l := make([]Cond, 0, len(c.L)+3)
	for _, x := range c.L {
		l = append(l, roomy(x))
	}
	c.L = l
	return c
}

// roomyRules are rules of which the same is true.
func roomyRules(l []Rule) []Rule {
	own := make([]Rule, 0, len(l)+3)
	for _, x := range l {
		x.Ops = append(make([]string, 0, len(x.Ops)+3), x.Ops...)
		x.If = roomy(x.If)
		own = append(own, x)
	}
	return own
}

// behind tells whether something stands in the room behind a condition's lists.
func behind(c Cond) bool {
	blank := func(x Cond) bool { return shownCond(x) == shownCond(Cond{}) }
	for _, x := range c.L[len(c.L):cap(c.L)] {
		if !blank(x) {
			return true
		}
	}
	return slices.ContainsFunc(c.L, behind)
}

// behindRules tells the same of rules.
func behindRules(l []Rule) bool {
	for _, x := range l[len(l):cap(l)] {
		if shown(x) != shown(Rule{}) {
			return true
		}
	}
	return slices.ContainsFunc(l, func(x Rule) bool {
		return behind(x.If) || slices.ContainsFunc(x.Ops[len(x.Ops):cap(x.Ops)], func(s string) bool { return s != "" })
	})
}

// lists are functions that write over one list of rules each, in all its room, and
// answer what takes that back.
func lists(l []Rule) []func() func() {
	all := []func() func(){scrub(l, Rule{Target: "scrub"})}
	for _, x := range l {
		all = append(all, scrub(x.Ops, "scrub"))
		all = append(all, listsOf(x.If)...)
	}
	return all
}

// listsOf are such functions of a condition's lists.
func listsOf(c Cond) []func() func() {
	all := []func() func(){scrub(c.L, Cond{Op: 99})}
	for _, x := range c.L {
		all = append(all, listsOf(x)...)
	}
	return all
}

// scrub is such a function of one list.
func scrub[T any](l []T, with T) func() func() {
	return func() func() {
		whole := l[:cap(l)]
		was := slices.Clone(whole)
		for i := range whole {
			whole[i] = with
		}
		return func() { copy(whole, was) }
	}
}

// rich is a text with lists of all kinds.
const rich = "allow read, write, run on /a/* if (publisher = a or not (revision < 3 and has plug x)) and (package = b or has slot y or has hook z) and not not revision > 1;\ndeny put on x.*;\nallow slot, plug on * if has plug x and has slot y or not (has hook z or has hook z);\n"

// P15.4: answers are new memory.
func TestAnswered(t *testing.T) {
	l, _, _ := Parse(rich)
	again, _, _ := Parse(rich)
	was := shown(again...)
	for no, over := range lists(l) {
		back := over()
		if shown(again...) != was {
			t.Fatalf("a change of list %d of one answer changes another: %s", no, shown(again...))
		}
		if third, _, _ := Parse(rich); shown(third...) != was {
			t.Fatalf("a change of list %d of an answer changes a later one: %s", no, shown(third...))
		}
		back()
	}
}

// P15.4: no two lists of one answer share memory, nor the room behind them.
func TestApart(t *testing.T) {
	l, _, _ := Parse(rich)
	seen := map[*string]bool{}
	conds := map[*Cond]bool{}
	var look func(c Cond)
	look = func(c Cond) {
		whole := c.L[:cap(c.L)]
		for i := range whole {
			if conds[&whole[i]] {
				t.Errorf("two lists share memory: %s", shownCond(c))
			}
			conds[&whole[i]] = true
		}
		for _, x := range c.L {
			look(x)
		}
	}
	for _, x := range l {
		whole := x.Ops[:cap(x.Ops)]
		for i := range whole {
			if seen[&whole[i]] {
				t.Errorf("two lists share memory: %s", shown(x))
			}
			seen[&whole[i]] = true
		}
		look(x.If)
	}
	if len(seen) < 6 || len(conds) < 15 {
		t.Errorf("so few were looked at: %d, %d", len(seen), len(conds))
	}
}

// P15.4: rules and conditions that are handed in are neither changed nor kept.
func TestHandedIn(t *testing.T) {
	read, _, _ := Parse(rich)
	for _, want := range [][]Rule{nil, {{}}, read, {{Ops: []string{"x"}, If: tree(3, tree(1), tree(2, Cond{}, Cond{Op: 77}))}}} {
		l := roomyRules(want)
		untouched := func(what string) {
			t.Helper()
			if shown(l...) != shown(want...) || behindRules(l) {
				t.Errorf("%s changes what was handed in: %s", what, shown(l[:cap(l)]...))
			}
		}
		Text(l...)
		untouched("Text")
		Same(l, l)
		untouched("Same")
		for _, x := range l {
			Print(x.If)
			untouched("Print")
			Depth(x.If)
			untouched("Depth")
			Count(x.If)
			untouched("Count")
		}
	}
}
