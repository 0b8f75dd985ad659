package mode

import (
	"math"
	"math/rand"
	"slices"
	"strings"
	"testing"

	"creel/api"
)

// Numbers about the edges of each part.
var (
	kinds = []int{math.MinInt, -1, 0, 1, 2, 3, 4, 5, math.MaxInt}
	modes = []int{math.MinInt, -1, 0, 0o644, 0o755, 0o4755, 0o2777, 4095, 4096, 1 << 20, math.MaxInt}
	whos  = []int{math.MinInt, -1, 0, 1, 65535, 65536, math.MaxInt}
	wants = []int{math.MinInt, -8, -1, 0, 1, 2, 3, 4, 5, 6, 7, 8, 15, math.MaxInt}
)

// digit is what stands in a mode's text at a place.
func digit(mode, place int) int {
	return mode / []int{512, 64, 8, 1}[place] % 8
}

// has tells whether a digit is a sum of which a part is one.
func has(digit, part int) bool { return digit/part%2 == 1 }

// modelCheck is another Check, part by part from the last one on.
func modelCheck(s Stat) api.Errno {
	e := api.OK
	if min(s.Owner, s.Group) < 0 || max(s.Owner, s.Group) >= 1<<16 {
		e = api.ErrArg
	}
	if s.Mode < 0 || s.Mode >= 8*8*8*8 {
		e = api.ErrMode
	}
	if !slices.Contains([]int{0, 1, 2, 3, 4}, s.Kind) {
		e = api.ErrType
	}
	return e
}

// modelCan is another Can, which asks for each thing that is wanted.
func modelCan(s Stat, who, group int, want []int) bool {
	if modelCheck(s) != api.OK || modelCheck(Stat{Owner: who, Group: group}) != api.OK {
		return false
	}
	counts := digit(s.Mode, 3)
	if group == s.Group {
		counts = digit(s.Mode, 2)
	}
	if who == s.Owner {
		counts = digit(s.Mode, 1)
	}
	for _, w := range want {
		if w < 0 || w > 7 {
			return false
		}
		for _, one := range []int{1, 2, 4} {
			if who != 0 && has(w, one) && !has(counts, one) {
				return false
			}
		}
	}
	return true
}

// modelRefusal is another Refusal, from a mode's digits.
func modelRefusal(s Stat) api.Errno {
	set := has(digit(s.Mode, 0), 4) || has(digit(s.Mode, 0), 2)
	written := has(digit(s.Mode, 2), 2) || has(digit(s.Mode, 3), 2)
	switch e := modelCheck(s); {
	case e != api.OK:
		return e
	case s.Kind > 2:
		return api.ErrType
	case set || s.Kind != 2 && written:
		return api.ErrMode
	}
	return api.OK
}

// modelNumber is another Number, by sums and products.
func modelNumber(s Stat) int {
	if modelCheck(s) != api.OK {
		return 0
	}
	return ((s.Kind*4096+s.Mode)*65536+s.Owner)*65536 + s.Group
}

// modelCut is another Cut, bit by bit.
func modelCut(mode int, drop []int) int {
	left := 0
	for bit := 1; bit < 4096 && mode >= 0 && mode < 4096; bit *= 2 {
		if mode/bit%2 == 1 && !slices.ContainsFunc(drop, func(d int) bool { return d&bit != 0 }) {
			left += bit
		}
	}
	return left
}

// held holds what is asked of a stat alone against the models, and wants what
// follows of it.
func held(t *testing.T, s Stat) {
	t.Helper()
	if got, want := Check(s), modelCheck(s); got != want {
		t.Errorf("Check(%v): %d; want %d", s, got, want)
	}
	refusal, safe, n := Refusal(s), Safe(s), Number(s)
	if want := modelRefusal(s); refusal != want || safe != (want == api.OK) {
		t.Errorf("Refusal(%v): %d, Safe: %v; want %d", s, refusal, safe, want)
	}
	if (refusal != api.OK) == safe {
		t.Errorf("%v is refused by %d; is it safe? %v", s, refusal, safe)
	}
	if want := modelNumber(s); n != want {
		t.Errorf("Number(%v): %d; want %d", s, n, want)
	}
	if Check(s) != api.OK {
		return
	}
	if again, e := Of(n); again != s || e != api.OK {
		t.Errorf("Of(Number(%v)): %v, %d", s, again, e)
	}
}

// stats are all stats of the parts at the edges.
func stats() []Stat {
	var l []Stat
	for _, kind := range kinds {
		for _, mode := range modes {
			for _, owner := range whos {
				for _, group := range whos {
					l = append(l, Stat{kind, mode, owner, group})
				}
			}
		}
	}
	return l
}

// P6.1, P6.2, P6.3, P6.4: all edges of the four parts with one another.
func TestEdges(t *testing.T) {
	for _, s := range stats() {
		held(t, s)
	}
}

// P6.2: somebody at all edges, of stats at all edges.
func TestCanEdges(t *testing.T) {
	for _, s := range stats() {
		for _, who := range whos {
			for _, group := range whos {
				for _, want := range [][]int{nil, {0}, {4}, {2, 1}, {7}, {8}} {
					if got := Can(s, who, group, want...); got != modelCan(s, who, group, want) {
						t.Fatalf("Can(%v, %d, %d, %v): %v", s, who, group, want, got)
					}
				}
			}
		}
	}
}

// P6.2: all modes, asked by the administrator, the owner, one of the group,
// one that is both, and another, for all one may want.
func TestCanAllModes(t *testing.T) {
	for mode := range 4096 {
		s := Stat{mode % 5, mode, 5, 7}
		for _, by := range [][2]int{{0, 9}, {0, 7}, {5, 9}, {5, 7}, {6, 7}, {6, 9}, {7, 5}, {65535, 0}} {
			for _, w := range wants {
				for _, want := range [][]int{{w}, {w, 0}, {4, w}, {w, 1, 2}} {
					if got := Can(s, by[0], by[1], want...); got != modelCan(s, by[0], by[1], want) {
						t.Fatalf("Can(%v, %d, %d, %v): %v", s, by[0], by[1], want, got)
					}
				}
			}
		}
	}
}

// P6.3, P6.4: all modes of all kinds, there and back.
func TestAllModesAndKinds(t *testing.T) {
	for mode := -1; mode <= 4096; mode++ {
		for kind := -1; kind <= 5; kind++ {
			held(t, Stat{kind, mode, 0, 0})
			held(t, Stat{kind, mode, 5, 65535})
			held(t, Stat{kind, mode, 65535, 7})
		}
	}
}

// P6.1, P6.4: all texts of up to five of some signs are a mode's just if that
// mode has them.
func TestAllShortTexts(t *testing.T) {
	texts := map[string]int{}
	for mode := range 4096 {
		text := ""
		for place := range 4 {
			text += string(rune('0' + digit(mode, place)))
		}
		texts[text] = mode
		if got := Text(mode); got != text {
			t.Errorf("Text(%d): %q; want %q", mode, got, text)
		}
	}
	const signs, longest = "0123456789-+ _a", 5
	some := []string{""}
	for length := range longest + 1 {
		for _, s := range some {
			mode, is := texts[s]
			want := api.OK
			if !is {
				want = api.ErrForm
			}
			if got, e := Parse(s); got != mode || e != want {
				t.Errorf("Parse(%q): %d, %d; want %d, %d", s, got, e, mode, want)
			}
		}
		if length < longest {
			some = longer(some, signs)
		}
	}
}

// longer are all texts with each sign behind them.
func longer(texts []string, signs string) []string {
	var l []string
	for _, s := range texts {
		for _, sign := range signs {
			l = append(l, s+string(sign))
		}
	}
	return l
}

// P6.1: each byte at each place of a mode's text.
func TestEachByte(t *testing.T) {
	for n := range 256 {
		for place := range 4 {
			s := []byte("0152")
			s[place] = byte(n)
			got, e := Parse(string(s))
			if is := strings.IndexByte("01234567", byte(n)) >= 0; is != (e == api.OK) || is && Text(got) != string(s) || !is && got != 0 {
				t.Errorf("Parse(%q): %d, %d", s, got, e)
			}
		}
	}
}

// P6.3, P6.4: numbers by chance, and stats with what one bit is turned of.
func TestNumbersByChance(t *testing.T) {
	r := rand.New(rand.NewSource(6))
	for range 20000 {
		s := Stat{r.Intn(5), r.Intn(4096), r.Intn(65536), r.Intn(65536)}
		held(t, s)
		for bit := range 64 {
			number(t, Number(s)^1<<bit)
		}
		number(t, int(r.Uint64()))
		number(t, r.Intn(8<<44))
	}
}

// number wants of a number that it is that of a right stat, or of none.
func number(t *testing.T, n int) {
	t.Helper()
	s, e := Of(n)
	switch is := n >= 0 && n < 5*4096*65536*65536; {
	case is && (e != api.OK || Check(s) != api.OK || modelNumber(s) != n):
		t.Errorf("Of(%d): %v, %d", n, s, e)
	case !is && (e != api.ErrForm || s != Stat{}):
		t.Errorf("Of(%d): %v, %d; want %d", n, s, e, api.ErrForm)
	}
}

// P6.3, P6.4: what is cut isn't set any more, and all else stays.
func TestCutFollows(t *testing.T) {
	r := rand.New(rand.NewSource(64))
	for mode := -1; mode <= 4096; mode++ {
		for bit := range 64 {
			cutHeld(t, mode, 1<<bit)
		}
		cutHeld(t, mode)
		for range 20 {
			cutHeld(t, mode, r.Intn(4096))
			cutHeld(t, mode, int(r.Uint64()), r.Intn(4096)&r.Intn(4096))
			cutHeld(t, mode, r.Intn(4096)&r.Intn(4096), -r.Intn(4096), r.Intn(1<<20)<<12, r.Intn(64))
		}
	}
}

// cutHeld holds what is cut against the model, and wants what follows of it.
func cutHeld(t *testing.T, mode int, drop ...int) {
	t.Helper()
	got := Cut(mode, drop...)
	if want := modelCut(mode, drop); got != want {
		t.Errorf("Cut(%d, %v): %d; want %d", mode, drop, got, want)
	}
	gone := 0
	for _, d := range drop {
		gone |= d
	}
	if got&gone != 0 || mode >= 0 && mode <= 4095 && got|mode&gone != mode {
		t.Errorf("Cut(%d, %v): %d", mode, drop, got)
	}
	if again := Cut(got, drop...); again != got {
		t.Errorf("Cut(%d, %v), cut again: %d; it was %d", mode, drop, again, got)
	}
}

// P6.4: cut of what makes it unsafe, each file, directory and link is safe.
func TestCutIsSafe(t *testing.T) {
	for mode := range 4096 {
		for _, kind := range []int{File, Dir, Link} {
			if s := (Stat{kind, Cut(mode, 0o6000, 0o22), 5, 7}); !Safe(s) {
				t.Errorf("%v, cut of what is unsafe, isn't safe", s)
			}
		}
	}
}

// P1, P2: the same calls have the same answers, whatever was called between,
// and what is handed in stays as it was.
func TestSameAnswers(t *testing.T) {
	for _, s := range stats() {
		want := slices.Clone(wants)
		first := told(s, want)
		told(Stat{Pipe, 4095, 1, 2}, nil)
		if again := told(s, want); !slices.Equal(first, again) {
			t.Errorf("%v: %v; then %v", s, first, again)
		}
		if !slices.Equal(want, wants) {
			t.Fatalf("what was handed in is changed: %v", want)
		}
	}
}

// told is what all calls answer of a stat, and of what is wanted or cut.
func told(s Stat, l []int) []any {
	parsed, e := Parse(Text(s.Mode))
	of, ofE := Of(s.Kind ^ s.Group)
	return []any{
		Check(s), Text(s.Mode), parsed, e, Word(s.Kind), Can(s, s.Group, s.Owner, l...), Can(s, s.Owner, s.Group, s.Kind),
		Safe(s), Refusal(s), Number(s), of, ofE, Cut(s.Mode, l...), Cut(s.Mode, s.Group),
	}
}
