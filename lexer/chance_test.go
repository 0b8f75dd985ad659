package lexer

import (
	"fmt"
	"math/rand"
	"slices"
	"strings"
	"testing"

	"creel/api"
)

// P14.1 to P14.4: all texts of up to six of the bytes that matter, by the model.
func TestAllTexts(t *testing.T) {
	for _, c := range []struct {
		bytes string
		most  int
	}{
		{"a1.*/-#\n ;", 5}, {"a.*/", 8}, {"az09-_.*/#\n\t ();A\x00", 3}, {"a\n#. ", 7},
	} {
		var from func(s string, more int)
		from = func(s string, more int) {
			held(t, "all texts", s)
			for i := 0; i < len(c.bytes) && more > 0; i++ {
				from(s+c.bytes[i:i+1], more-1)
			}
		}
		from("", c.most)
	}
}

// picker picks by chance, the same way each time.
type picker struct{ *rand.Rand }

func newPicker(seed int64) picker { return picker{rand.New(rand.NewSource(seed))} }

// of picks one of a list.
func of[T any](r picker, l []T) T { return l[r.Intn(len(l))] }

// some picks up to so many of a text's bytes.
func (r picker) some(bytes string, most int) string {
	s := ""
	for range r.Intn(most + 1) {
		s += string(bytes[r.Intn(len(bytes))])
	}
	return s
}

// length picks the most that a part may have, mostly few.
func (r picker) length(most int) int {
	if r.Intn(8) > 0 {
		return min(6, most)
	}
	return most
}

// token picks one that can stand in a text.
func (r picker) token() Token {
	begin := of(r, strings.Split(small, ""))
	switch kind := r.Intn(5); kind {
	case Word:
		return aWord(begin + r.some(small+digits+"-_", r.length(59)))
	case Number:
		return aNumber(of(r, strings.Split(digits, "")) + r.some(digits, r.length(8)))
	case Path:
		return aPath("/" + r.some(names+"/*", r.length(59)))
	case Key:
		begin += r.some(small+digits+"-_", r.length(30))
		if r.Intn(3) == 0 {
			return aKey(begin + ".*")
		}
		return aKey(begin + "." + of(r, strings.Split(names, "")) + r.some(names, r.length(27)))
	}
	return aSign(of(r, strings.Split(oneSigns, "")))
}

// gap picks what stands between two tokens.
func (r picker) gap() string {
	switch r.Intn(12) {
	case 0:
		return "\n"
	case 1:
		return "#" + r.some(names+"; \t#A\x00\xff", 9) + "\n"
	case 2:
		return r.some(" \t\n", 3) + "\t"
	}
	return " "
}

// text picks tokens, and a text that has them.
func (r picker) text(most int) (string, []Token) {
	var text strings.Builder
	var l []Token
	line := 1
	add := func(s string) {
		text.WriteString(s)
		line += strings.Count(s, "\n")
	}
	add(r.some(" \t\n", 2))
	for range r.Intn(most + 1) {
		x := r.token()
		x.Line = line
		add(x.Text)
		l = append(l, x)
		add(r.gap())
	}
	add(of(r, []string{"", " ", "\n", "#", "# x", "#;A"}))
	return text.String(), l
}

// hurt is a text of which something is another one.
func (r picker) hurt(s string) string {
	for range 1 + r.Intn(3) {
		at, end := r.Intn(len(s)+1), r.Intn(len(s)+1)
		at, end = min(at, end), max(at, end)
		switch r.Intn(5) {
		case 0:
			s = s[:at] + s[min(at+1, len(s)):]
		case 1:
			s = s[:at] + s[at:end] + s[at:end] + s[end:]
		case 2:
			s = s[:at] + string([]byte{byte(r.Intn(256))}) + s[at:]
		case 3:
			s = strings.Replace(s, of(r, []string{" ", "\n", "\t", "#"}), of(r, []string{"", " ", "\n", "."}), 1+r.Intn(3))
		case 4:
			s = s[:at] + of(r, []string{"1234567890", strings.Repeat("a", 61), "a.", "é", "\r\n", "#", "*", ".*"}) + s[at:]
		}
	}
	return s
}

// P14.2, P14.4: what texts by chance are made of is what is told of them, with
// its lines.
func TestTokensByChance(t *testing.T) {
	r := newPicker(14)
	kinds := map[int]int{}
	for range 20000 {
		s, want := r.text(of(r, []int{3, 10, 40}))
		tells(t, "by chance", s, want, 0, api.OK)
		held(t, "by chance", s)
		for _, x := range want {
			kinds[x.Kind]++
		}
	}
	for kind := range 5 {
		if kinds[kind] < 1000 {
			t.Errorf("chance has met kind %d so often: %d", kind, kinds[kind])
		}
	}
}

// P14.1, P14.2: texts by chance, in which something may be wrong, by the model;
// each error, and many lines, are met.
func TestHurt(t *testing.T) {
	r := newPicker(41)
	met, lines := map[api.Errno]int{}, map[int]int{}
	for range 20000 {
		s, _ := r.text(of(r, []int{3, 10, 40}))
		_, line, e := held(t, "hurt", r.hurt(s))
		met[e]++
		lines[line]++
	}
	for range 200 {
		s, _ := r.text(1300)
		_, _, e := held(t, "long", s)
		met[e]++
		_, _, e = held(t, "long and hurt", r.hurt(s))
		met[e]++
	}
	for _, e := range []api.Errno{api.OK, api.ErrForm, api.ErrLong, api.ErrFull} {
		if met[e] < 10 {
			t.Errorf("chance has met %d so often: %d", e, met[e])
		}
	}
	for line := range 8 {
		if lines[line] < 10 {
			t.Errorf("chance has met line %d so often: %d", line, lines[line])
		}
	}
}

// P14.1: Next, asked again and again, tells what Tokens tells, up to the same
// place.
func TestNextByNext(t *testing.T) {
	r := newPicker(3)
	for range 5000 {
		s, _ := r.text(20)
		if r.Intn(2) == 0 {
			s = r.hurt(s)
		}
		var l []Token
		at, lines := 0, 0
		x, n, e := Next(s)
		for ; e == api.OK; x, n, e = Next(s[at:]) {
			if n < len(x.Text) || s[at+n-len(x.Text):at+n] != x.Text {
				t.Fatalf("Next(%q): %s%d", s[at:], shown(x), n)
			}
			x.Line += lines
			l = append(l, x)
			lines += strings.Count(s[at:at+n], "\n")
			at += n
		}
		if x != (Token{}) {
			t.Errorf("Next(%q): %d, and %s", s[at:], e, shown(x))
		}
		switch e {
		case api.ErrEnd:
			tells(t, "one by one", s, l, 0, api.OK)
		default:
			tells(t, "one by one", s, nil, 1+strings.Count(s[:at+n], "\n"), e)
		}
	}
}

// P14.3: lists by chance are the same just if the model says so; texts are told
// as the model tells them.
func TestListsByChance(t *testing.T) {
	r := newPicker(5)
	same := 0
	for range 20000 {
		var l []Token
		for range r.Intn(6) {
			l = append(l, r.token())
		}
		texts(t, "by chance", l, true)
		other := slices.Clone(l)
		for range r.Intn(3) {
			if len(other) > 0 {
				i := r.Intn(len(other))
				other[i] = of(r, []Token{r.token(), {other[i].Kind, other[i].Text, r.Intn(99)}, {r.Intn(5), other[i].Text, 0}})
			}
		}
		if r.Intn(10) == 0 {
			other = append(other, r.token())
		}
		want := modelSame(l, other)
		if Same(l, other) != want || Same(other, l) != want {
			t.Errorf("Same(%s, %s): not %t", shown(l...), shown(other...), want)
		}
		if want {
			same++
		}
	}
	if same < 1000 || same > 19000 {
		t.Errorf("so many were the same: %d", same)
	}
}

// answers are all that the calls answer of a text, as a text.
func answers(s string) string {
	l, line, e := Tokens(s)
	x, at, nextE := Next(s)
	return fmt.Sprintf("%s %d %d %s %d %d %q %q", shown(l...), line, e, shown(x), at, nextE, Text(l...), Words(l...))
}

// P2: the same calls have the same answers, whatever was called between.
func TestSameAnswers(t *testing.T) {
	r := newPicker(2)
	for range 1000 {
		s, _ := r.text(10)
		other := r.hurt(s)
		first := answers(s)
		answers(other)
		if answers(s) != first {
			t.Errorf("not the same twice: %q", s)
		}
	}
}
