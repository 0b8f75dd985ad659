package manifest

import (
	"fmt"
	"slices"
	"strings"
	"testing"

	"creel/api"
)

// P13.2: the first line that can't be, or that should be there and isn't.
func TestLines(t *testing.T) {
	for _, c := range []struct {
		s  string
		no int
	}{
		{"", 1}, {"\n", 1}, {"\n\n", 1}, {" ", 1}, {" \n", 1}, {"package", 1}, {"package\n", 1}, {"package a", 1}, {"package a ", 1}, {"package a b\n", 1}, {"package a \n", 1}, {"package  a\n", 1}, {" package a\n", 1},
		{"Package a\n", 1}, {"packag a\n", 1}, {"packages a\n", 1}, {"package\ta\n", 1}, {"publisher b\n", 1}, {"revision 1\n", 1}, {"plug p net\n", 1}, {"\npackage a\n", 1}, {"package a\r\n", 2}, {"x\n" + head, 1}, {"\xef\xbb\xbf" + head, 1},
		{"package a\n", 2}, {"package \n", 2}, {"package a\n\n", 2}, {"package a\npublisher\n", 2}, {"package a\npublisher b", 2}, {"package a\npublisher b c\n", 2}, {"package a\npackage a\n", 2}, {"package a\nrevision 1\n", 2}, {"package a\nplug p net\n", 2}, {"package a\n publisher b\n", 2}, {"package a\nrevision 1\npublisher b\n", 2},
		{"package a\npublisher b\n", 3}, {"package a\npublisher b\n\n", 3}, {"package a\npublisher b\nrevision", 3}, {"package a\npublisher b\nrevision\n", 3}, {"package a\npublisher b\nrevision 1", 3}, {"package a\npublisher b\nrevision 1 \n", 3}, {"package a\npublisher b\nrevision 1 1\n", 3}, {"package a\npublisher b\nrevision \n", 3}, {"package a\npublisher b\npublisher b\n", 3}, {"package a\npublisher b\nplug p net\n", 3}, {"package A\npublisher /\n", 3},
		{head + "\n", 4}, {head + " ", 4}, {head + "x", 4}, {head + "x\n", 4}, {head + "\x00", 4}, {head + "package a\n", 4}, {head + "publisher b\n", 4}, {head + "revision 1\n", 4}, {head + head, 4},
		{head + "plug", 4}, {head + "plug\n", 4}, {head + "plug \n", 4}, {head + "plug p\n", 4}, {head + "plug p net", 4}, {head + "plug p net \n", 4}, {head + "plug p  net\n", 4}, {head + "plug  p net\n", 4}, {head + " plug p net\n", 4}, {head + "plug p net log\n", 4}, {head + "plug   \n", 4},
		{head + "Plug p net\n", 4}, {head + "plugs p net\n", 4}, {head + "plu p net\n", 4}, {head + "plug\tp net\n", 4}, {head + "plug p\tnet\n", 4}, {head + "plug\x00p net\n", 4}, {head + "# plug p net\n", 4},
		{head + "slot s\n", 4}, {head + "slot s net log\n", 4}, {head + "hook install\n", 4}, {head + "hook install /a /b\n", 4}, {head + "hook /a\n", 4}, {head + "want read\n", 4}, {head + "want read  /\n", 4}, {head + "want /\n", 4}, {head + "wants read /\n", 4},
		{head + "plug p net\n\n", 5}, {head + "plug p net\npackage a\n", 5}, {head + "plug p net\nplug q net", 5}, {head + "plug p net\nx\n", 5}, {head + "slot s net\nplug p net\n", 5}, {head + "hook install /a\nplug p net\n", 5}, {head + "hook install /a\nslot p net\n", 5}, {head + "want read /\nplug p net\n", 5}, {head + "want read /\nslot s net\n", 5}, {head + "want read /\nhook install /a\n", 5}, {head + "want read /\nrevision 1\n", 5},
		{head + "plug p net\nslot s net\nplug q net\n", 6}, {head + "plug p net\nwant read /\nslot s net\n", 6}, {head + "slot s net\nslot t net\nplug p net\n", 6}, {head + "plug p net\nslot s net\nhook install /a\nwant read /\nwant run /\nhook remove /a\n", 9},
	} {
		wrongAt(t, "lines", c.s, c.no)
	}
}

// P13.2: each line can be, but not what they say together, or what one says; an
// empty word is a word.
func TestLinesThatCanBe(t *testing.T) {
	for s, want := range map[string]api.Errno{
		"package \npublisher \nrevision 1\n":                 api.ErrPath,
		"package a\npublisher \nrevision 0\n":                api.ErrPath,
		"package a\r\npublisher b\nrevision 1\n":             api.ErrPath,
		"package a\npublisher b\nrevision 0\nplug A B\n":     api.ErrArg,
		head + "plug  \n":                                    api.ErrForm,
		head + "plug  net\n":                                 api.ErrForm,
		head + "plug p \n":                                   api.ErrForm,
		head + "plug p net\r\n":                              api.ErrForm,
		head + "slot  \n":                                    api.ErrForm,
		head + "hook  /a\n":                                  api.ErrForm,
		head + "hook install \n":                             api.ErrForm,
		head + "hook /a install\n":                           api.ErrForm,
		head + "want  \n":                                    api.ErrForm,
		head + "want read \n":                                api.ErrForm,
		head + "want / read\n":                               api.ErrForm,
		head + "want get x\tx\n":                             api.ErrForm,
		head + "plug q net\nplug p net\n":                    api.ErrTwice,
		head + "want read /\nwant read /\n":                  api.ErrTwice,
		head + "plug p net\nslot p net\n":                    api.ErrTwice,
		head + strings.Repeat("plug p net\n", 20):            api.ErrTwice,
		head + strings.Repeat("plug p net\n", 21):            api.ErrLong,
		head + strings.Repeat("want  \n", 21):                api.ErrLong,
		head + "slot s x\n" + strings.Repeat("want  \n", 20): api.ErrLong,
	} {
		parses(t, "lines that can be", s, Manifest{}, 0, want)
		heldText(t, "lines that can be", s)
		// What can't be is told ahead of that.
		n := strings.Count(s, "\n")
		wrongAt(t, "and one that can't be", s+"x\n", n+1)
		wrongAt(t, "and one that can't be", s+"\n", n+1)
		wrongAt(t, "and one without an end", s+"want read /", n+1)
		wrongAt(t, "the last one without an end", s[:len(s)-1], n)
	}
	m := plain()
	for i := range 30 {
		m.Plugs = append(m.Plugs, Item{fmt.Sprint("p", i+10), "net"})
		wrongAt(t, "behind many", raw(m)+"want read\n", i+5)
	}
}

// P13.2: all rows of some lines, right and wrong ones, ended and not.
func TestRows(t *testing.T) {
	pieces := []string{"package a\n", "publisher b\n", "revision 1\n", "revision 01\n", "plug p net\n", "slot s net\n", "hook install /a\n", "want read /\n", "\n"}
	var rows func(s string, many int)
	rows = func(s string, many int) {
		heldText(t, "a row", s)
		heldText(t, "a row without an end", strings.TrimSuffix(s, "\n"))
		if many == 0 {
			return
		}
		for _, piece := range pieces {
			rows(s+piece, many-1)
		}
	}
	rows("", 4)
	pieces = []string{"plug p net\n", "plug q net\n", "slot p net\n", "slot s net\n", "hook install /a\n", "hook remove /a\n", "want read /\n", "want write /\n", "plug p\n", "revision 1\n"}
	rows(head, 4)
}

// P13.2: how many bytes a text has, ahead of what they are.
func TestLength(t *testing.T) {
	for _, begin := range []string{"", head, "\n", raw(full())} {
		for _, sign := range []string{"x", "\x00", "\n", " ", "\xff"} {
			for size, want := range map[int]api.Errno{4095: api.ErrForm, 4096: api.ErrForm, 4097: api.ErrLong, 4098: api.ErrLong, 10000: api.ErrLong, 1 << 20: api.ErrLong} {
				s := begin + strings.Repeat(sign, size-len(begin))
				no := 0
				if want == api.ErrForm {
					no = strings.Count(begin, "\n") + 1
					if begin == "\n" {
						no = 1
					}
				}
				parses(t, fmt.Sprint(size, " bytes"), s, Manifest{}, no, want)
			}
		}
	}
	for size, want := range map[int]api.Errno{4095: api.ErrForm, 4096: api.ErrForm, 4097: api.ErrLong} { // each line can be
		s := head + "plug p "
		parses(t, fmt.Sprint("lines of ", size), s+strings.Repeat("n", size-len(s)-1)+"\n", Manifest{}, 0, want)
		s = "package "
		behind := "\npublisher b\nrevision 1\n"
		if want == api.ErrForm {
			want = api.ErrPath
		}
		parses(t, fmt.Sprint("lines of ", size), s+strings.Repeat("n", size-len(s)-len(behind))+behind, Manifest{}, 0, want)
	}
}

// P13.2: the longest text that a manifest has is parsed.
func TestLongest(t *testing.T) {
	long := strings.Repeat("n", 24)
	m := Manifest{Package: long, Publisher: long, Revision: 999999}
	for i := range 20 {
		m.Wants = append(m.Wants, Item{"write", strings.Repeat("/"+strings.Repeat("d", 19), 7) + "/" + strings.Repeat(string(rune('a'+i)), 19)})
	}
	s, e := Text(m)
	if want := len("package \npublisher \nrevision 999999\n") + 48 + 20*(len("want write \n")+160); len(s) != want || e != api.OK {
		t.Errorf("Text of the longest: %d bytes, %d; want %d", len(s), e, want)
	}
	held(t, "the longest", m)
}

// P13.2, P13.4: texts of which each byte in turn is another one, or gone, or has
// another one ahead of it, and all that they begin and end with.
func TestEachByte(t *testing.T) {
	short := with(0, Item{"p", "net"})
	short.Wants = []Item{{"get", "x.a"}, {"read", "/"}}
	for _, s := range []string{raw(short), raw(full())} {
		read := 0
		for at := range len(s) + 1 {
			heldText(t, "the beginning", s[:at])
			heldText(t, "the end", s[at:])
			for sign := range 256 {
				more := string([]byte{byte(sign)})
				if _, e := heldText(t, "a byte more", s[:at]+more+s[at:]); e == api.OK {
					read++
				}
				if at < len(s) {
					heldText(t, "another byte", s[:at]+more+s[at+1:])
				}
			}
			if at < len(s) {
				heldText(t, "a byte less", s[:at]+s[at+1:])
			}
		}
		if read < 300 {
			t.Errorf("of texts with a byte more so many were read: %d", read)
		}
	}
}

// P13.2, P13.4: lines that are gone, there twice, or elsewhere.
func TestEachLine(t *testing.T) {
	s := raw(full())
	l := strings.SplitAfter(strings.TrimSuffix(s, "\n"), "\n")
	l[len(l)-1] += "\n"
	for i := range l {
		heldText(t, "a line less", strings.Join(slices.Delete(slices.Clone(l), i, i+1), ""))
		for j := range len(l) + 1 {
			heldText(t, "a line more", strings.Join(slices.Insert(slices.Clone(l), j, l[i]), ""))
			heldText(t, "an empty line more", strings.Join(slices.Insert(slices.Clone(l), j, "\n"), ""))
			if j < len(l) {
				other := slices.Clone(l)
				other[i], other[j] = other[j], other[i]
				_, e := heldText(t, "two lines that change places", strings.Join(other, ""))
				if (e == api.OK) != (i == j) {
					t.Errorf("the model reads lines %d and %d the other way round: %d", i, j, e)
				}
			}
		}
	}
}
