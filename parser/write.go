package parser

import "strconv"

// What stands between two words, and behind a rule.
const (
	blank   = " "
	lineEnd = "\n"
)

// writer writes words, with a blank between each two.
type writer struct {
	text  []byte
	apart bool // does a blank stand ahead of the next word?
}

// say writes a word.
func (w *writer) say(word string) {
	if w.apart {
		w.text = append(w.text, blank...)
	}
	w.text = append(w.text, word...)
	w.apart = true
}

// begin writes a bracket, behind which no blank stands.
func (w *writer) begin() {
	w.say(bracketBegin)
	w.apart = false
}

// end writes what stands right behind the word ahead of it.
func (w *writer) end(sign string) {
	w.text = append(w.text, sign...)
	w.apart = true
}

// rule writes a rule, and ends its line.
func (w *writer) rule(x Rule) {
	if x.Allow {
		w.say(allowWord)
	} else {
		w.say(denyWord)
	}
	for i, op := range x.Ops {
		if i > 0 {
			w.end(comma)
		}
		w.say(op)
	}
	w.say(onWord)
	w.say(x.Target)
	if x.If.Op != none {
		w.say(ifWord)
		w.cond(x.If)
	}
	w.end(ruleEnd + lineEnd)
	w.apart = false
}

// cond writes a condition.
func (w *writer) cond(c Cond) {
	switch c.Op {
	case or:
		w.joined(c, orWord)
	case and:
		w.joined(c, andWord)
	case not:
		w.say(notWord)
		for _, x := range c.L {
			w.part(c, x)
		}
	case isPublisher, isPackage, hasPlug, hasSlot, hasHook:
		w.ask(c.Op, c.A)
	case isBelow, isSame, isAbove:
		w.ask(c.Op, strconv.Itoa(c.N))
	}
}

// joined writes a condition's parts, with a word between each two.
func (w *writer) joined(c Cond, word string) {
	for i, x := range c.L {
		if i > 0 {
			w.say(word)
		}
		w.part(c, x)
	}
}

// part writes one of a condition's parts.
func (w *writer) part(c, x Cond) {
	if !bracketed(c.Op, x.Op) {
		w.cond(x)
		return
	}
	w.begin()
	w.cond(x)
	w.end(bracketEnd)
}

// ask writes a piece that asks for something.
func (w *writer) ask(op int, what string) {
	w.say(asks[op][0])
	w.say(asks[op][1])
	w.say(what)
}
