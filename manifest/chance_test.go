package manifest

import (
	"fmt"
	"math/rand"
	"slices"
	"strings"
	"testing"

	"creel/api"
)

// picker picks by chance, the same way each time.
type picker struct {
	*rand.Rand
	right, wrong [4][]Item // what it picks items of
	names        []string  // that are none
}

func newPicker(seed int64) picker {
	r := picker{Rand: rand.New(rand.NewSource(seed)), names: slices.Concat(wrongNames, cutNames)}
	for no := range 4 {
		r.right[no], r.wrong[no] = right(no), wrong(no)
	}
	return r
}

// rarely is true once in so many times.
func (r picker) rarely(times int) bool { return r.Intn(times) == 0 }

// of picks one of a list.
func of[T any](r picker, l []T) T { return l[r.Intn(len(l))] }

// name picks a name that others may have, too.
func (r picker) name() string {
	if r.rarely(60) {
		return of(r, r.names)
	}
	return of(r, []string{"a", "b", "c", "d.e", "f-g", "h_i", "0", "9", "ann", "tool", "net", "x.y.z"})
}

// item picks an item of a list, mostly a right one.
func (r picker) item(no int) Item {
	switch {
	case r.rarely(60):
		return of(r, r.wrong[no])
	case no < 2:
		return Item{r.name(), r.name()}
	}
	return of(r, r.right[no])
}

// manifest picks a manifest, mostly with lists that rise.
func (r picker) manifest() Manifest {
	m := Manifest{r.name(), r.name(), 1 + r.Intn(999999), nil, nil, nil, nil}
	if r.rarely(30) {
		m.Revision = of(r, []int{0, -1, -500, 1000000, 1234567})
	}
	most := 7
	for no, l := range listsOf(&m) {
		if no == 2 {
			most = 3
		} else if r.rarely(20) {
			most = 20
		}
		for range r.Intn(most) {
			*l = append(*l, r.item(no))
		}
		if !r.rarely(20) {
			slices.SortFunc(*l, func(x, y Item) int { return strings.Compare(x.A+"\x00"+x.B, y.A+"\x00"+y.B) })
			*l = slices.Compact(*l)
		}
		if no < 3 && !r.rarely(20) {
			*l = slices.CompactFunc(*l, func(x, y Item) bool { return x.A == y.A })
		}
		most = 7
	}
	if !r.rarely(10) {
		m.Slots = slices.DeleteFunc(m.Slots, func(x Item) bool { return slices.ContainsFunc(m.Plugs, func(y Item) bool { return x.A == y.A }) })
	}
	return m
}

// hurt is a text of which something is another one.
func (r picker) hurt(s string) string {
	for range 1 + r.Intn(2) {
		at, end := r.Intn(len(s)+1), r.Intn(len(s)+1)
		at, end = min(at, end), max(at, end)
		switch r.Intn(6) {
		case 0:
			s = s[:at] + s[end:]
		case 1:
			s = s[:end] + s[at:]
		case 2:
			s = s[:at]
		default:
			s = s[:at] + of(r, []string{" ", "\n", "a", "0", ".", "/", "\x00", "plug p q\n", "want read /\n", "\n\n"}) + s[min(at+r.Intn(2), len(s)):]
		}
	}
	return s
}

// P13.1, P13.2, P13.4: manifests by chance, by the model; each error is met.
func TestManifests(t *testing.T) {
	r := newPicker(13)
	met := map[api.Errno]int{}
	for range 30000 {
		met[held(t, "by chance", r.manifest())]++
	}
	for _, e := range []api.Errno{api.OK, api.ErrPath, api.ErrArg, api.ErrLong, api.ErrForm, api.ErrTwice} {
		if met[e] < 100 {
			t.Errorf("chance has met %d so often: %d", e, met[e])
		}
	}
}

// P13.2, P13.4: texts by chance, by the model; each error, and many lines, are met.
func TestHurt(t *testing.T) {
	r := newPicker(31)
	met, places := map[api.Errno]int{}, map[int]int{}
	for range 30000 {
		s := r.hurt(raw(r.manifest()))
		_, no, _ := Parse(s)
		_, e := heldText(t, "by chance", s)
		met[e]++
		places[no]++
	}
	for _, e := range []api.Errno{api.OK, api.ErrPath, api.ErrArg, api.ErrLong, api.ErrForm, api.ErrTwice} {
		if met[e] < 10 {
			t.Errorf("chance has met %d so often: %d", e, met[e])
		}
	}
	for no := range 15 {
		if places[no] < 10 {
			t.Errorf("chance has met line %d so often: %d", no, places[no])
		}
	}
}

// P13.3: manifests by chance: what is tidied rises, has all items that were there
// and no others, is right but for what else is wrong, and is tidied as it is.
func TestTidied(t *testing.T) {
	r := newPicker(7)
	right := 0
	for range 10000 {
		m := r.manifest()
		was := own(m)
		for _, l := range listsOf(&m) {
			for range len(*l) {
				*l = append(*l, of(r, *l))
			}
			r.Shuffle(len(*l), func(i, j int) { (*l)[i], (*l)[j] = (*l)[j], (*l)[i] })
		}
		got := Tidy(m)
		for no, l := range listsOf(&got) {
			given := *listsOf(&was)[no]
			for i, x := range *l {
				if i > 0 && !above(x, (*l)[i-1]) || !slices.Contains(given, x) {
					t.Fatalf("Tidy(%s): %s", shown(m), shown(got))
				}
			}
			if slices.ContainsFunc(given, func(x Item) bool { return !slices.Contains(*l, x) }) {
				t.Fatalf("Tidy(%s): %s", shown(m), shown(got))
			}
		}
		if again := Tidy(got); !Same(again, got) || got.Package != m.Package || got.Publisher != m.Publisher || got.Revision != m.Revision {
			t.Fatalf("Tidy(%s): %s, and then %s", shown(m), shown(got), shown(again))
		}
		if Check(was) == api.OK {
			right++
			if !Same(got, was) {
				t.Fatalf("Tidy of what was right, and shuffled: %s; want %s", shown(got), shown(was))
			}
		}
	}
	if right < 1000 {
		t.Errorf("so many were right: %d", right)
	}
}

// P13.4: two manifests have one text just if they are the same.
func TestOneText(t *testing.T) {
	r := newPicker(4)
	texts := map[string]Manifest{}
	for range 30000 {
		m := r.manifest()
		s, e := Text(m)
		if e != api.OK {
			continue
		}
		if other, was := texts[s]; was && !Same(other, m) {
			t.Errorf("%q is of %s, and of %s", s, shown(other), shown(m))
		}
		texts[s] = m
	}
	if len(texts) < 1000 {
		t.Errorf("so many texts: %d", len(texts))
	}
}

// answers are all that the calls answer of a manifest and a text, as a text.
func answers(m Manifest, s string) string {
	read, no, e := Parse(s)
	text, textE := Text(m)
	x, findE := Find(m.Wants, "read")
	return fmt.Sprintln(shown(read), no, e, text, textE, x, findE, Check(m), Same(m, read), shown(Tidy(m)), Interfaces(m))
}

// P2: the same calls have the same answers, whatever was called between.
func TestSameAnswers(t *testing.T) {
	r := newPicker(2)
	for range 1000 {
		m, other := r.manifest(), r.manifest()
		s, hurt := raw(other), r.hurt(raw(m))
		first := answers(m, s)
		answers(other, hurt)
		if answers(m, s) != first {
			t.Errorf("not the same twice: %s", shown(m))
		}
	}
}
