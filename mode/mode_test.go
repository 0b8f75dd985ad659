package mode

import (
	"math"
	"slices"
	"strings"
	"testing"

	"creel/api"
)

// P6.1: the constants, and what is wanted together.
func TestConstants(t *testing.T) {
	if got := [...]int{File, Dir, Link, Device, Pipe}; got != [...]int{0, 1, 2, 3, 4} {
		t.Errorf("the kinds: %v", got)
	}
	if got := [...]int{Read, Write, Run}; got != [...]int{4, 2, 1} {
		t.Errorf("what may be wanted: %v", got)
	}
	var n uint8 = Pipe + Read // they are of no type of their own
	if n != 8 {
		t.Errorf("Pipe and Read: %d", n)
	}
}

// P6.1: what is wrong with a stat, the kind ahead of the mode, and that ahead
// of its owner and its group.
func TestCheck(t *testing.T) {
	for _, c := range []struct {
		s    Stat
		want api.Errno
	}{
		{Stat{}, api.OK},
		{Stat{Pipe, 4095, 65535, 65535}, api.OK},
		{Stat{Device, 0o6777, 1, 2}, api.OK},
		{Stat{-1, 0, 0, 0}, api.ErrType},
		{Stat{5, 0, 0, 0}, api.ErrType},
		{Stat{5, 4096, 65536, -1}, api.ErrType},
		{Stat{0, -1, 0, 0}, api.ErrMode},
		{Stat{0, 4096, 0, 0}, api.ErrMode},
		{Stat{4, 4096, 65536, 65536}, api.ErrMode},
		{Stat{0, 4095, -1, 0}, api.ErrArg},
		{Stat{0, 4095, 65536, 0}, api.ErrArg},
		{Stat{0, 4095, 0, -1}, api.ErrArg},
		{Stat{0, 4095, 0, 65536}, api.ErrArg},
		{Stat{1, 0, -1, -1}, api.ErrArg},
	} {
		if got := Check(c.s); got != c.want {
			t.Errorf("Check(%v): %d; want %d", c.s, got, c.want)
		}
	}
}

// P6.1: modes and their texts.
func TestText(t *testing.T) {
	for text, mode := range map[string]int{
		"0000": 0, "0001": 1, "0007": 7, "0010": 8, "0070": 56, "0100": 64, "0644": 420, "0700": 448, "0755": 493,
		"0777": 511, "1000": 512, "1777": 1023, "2000": 1024, "4000": 2048, "4755": 2541, "7000": 3584, "7776": 4094, "7777": 4095,
	} {
		if got := Text(mode); got != text {
			t.Errorf("Text(%d): %q; want %q", mode, got, text)
		}
		if got, e := Parse(text); got != mode || e != api.OK {
			t.Errorf("Parse(%q): %d, %d; want %d", text, got, e, mode)
		}
	}
	for _, mode := range []int{-1, -420, 4096, 4097, 4096 + 420, 8191, 1 << 32, math.MinInt, math.MaxInt} {
		if got := Text(mode); got != "" {
			t.Errorf("Text(%d), which is none: %q", mode, got)
		}
	}
}

// P6.1: texts that are no mode's.
func TestParseWrong(t *testing.T) {
	wrong := []string{
		"", "0", "7", "64", "644", "777", "000", "00644", "10000", "00000", "000644", "77777", "07777",
		"0648", "0649", "8000", "9000", "0800", "0080", "0090", "0008", "0009", "8888", "9999",
		"-644", "+644", "-000", "+000", " 644", "644 ", "\t644", "0644\n", "644\n", "06 4", "0o64", "0x64", "0b11", "0_64", "6_44", "_644",
		"06a4", "a644", "064a", "0.64", "6e44", "/644", "064/", "064:", ":644", "\x00\x00\x00\x00", "\xff\xff\xff\xff", "064\x80",
		"rwxr", "file", "０６", "٠", "٠٦", "é64", "NaN4",
		strings.Repeat("0", 100000), strings.Repeat("7", 100000),
	}
	for _, s := range wrong {
		if got, e := Parse(s); got != 0 || e != api.ErrForm {
			t.Errorf("Parse(%.40q): %d, %d; want 0, %d", s, got, e, api.ErrForm)
		}
	}
}

// P6.1: the kinds' names.
func TestWord(t *testing.T) {
	for kind, want := range map[int]string{
		File: "file", Dir: "dir", Link: "link", Device: "device", Pipe: "pipe",
		-1: "", -5: "", 5: "", 6: "", 256: "", 1 << 32: "", math.MinInt: "", math.MaxInt: "",
	} {
		if got := Word(kind); got != want {
			t.Errorf("Word(%d): %q; want %q", kind, got, want)
		}
	}
}

// P6.2: whose bits count, and what is wanted.
func TestCan(t *testing.T) {
	hers := Stat{File, 0o640, 5, 7}
	none := Stat{File, 0o077, 5, 7}
	every := Stat{Dir, 0o7777, 5, 7}
	for _, c := range []struct {
		s          Stat
		who, group int
		want       []int
		may        bool
	}{
		{Stat{File, 0o644, 5, 0}, 5, 9, []int{Write}, true},
		{Stat{File, 0o644, 5, 0}, 6, 9, []int{Write}, false},
		{Stat{File, 0o644, 5, 0}, 6, 9, []int{Read}, true},
		{Stat{File, 0o644, 5, 0}, 0, 9, []int{Read, Write, Run}, true},
		// The owner's.
		{hers, 5, 9, []int{Read, Write}, true},
		{hers, 5, 9, []int{Read + Write}, true},
		{hers, 5, 9, []int{Run}, false},
		{hers, 5, 9, []int{Read, Run}, false},
		{hers, 5, 9, []int{Run, Read}, false},
		{hers, 5, 9, []int{7}, false},
		// The group's.
		{hers, 6, 7, []int{Read}, true},
		{hers, 6, 7, []int{Write}, false},
		{hers, 6, 7, []int{Read + Write}, false},
		{hers, 7, 5, []int{Read}, false}, // a who isn't held against the group
		// All others'.
		{hers, 6, 8, []int{Read}, false},
		{hers, 6, 8, []int{0}, true},
		{hers, 6, 8, nil, true},
		{hers, 6, 8, []int{}, true},
		{every, 65535, 65535, []int{7, 7}, true},
		// The owner's alone count for the owner, also of one in the group.
		{none, 5, 7, []int{Read}, false},
		{none, 5, 8, []int{Run}, false},
		{none, 5, 7, []int{0, 0}, true},
		{none, 6, 7, []int{7}, true},
		{none, 6, 8, []int{7}, true},
		{Stat{File, 0o007, 5, 7}, 6, 7, []int{Read}, false},
		{Stat{File, 0o707, 5, 7}, 6, 7, []int{Read}, false},
		{Stat{File, 0o070, 5, 7}, 6, 8, []int{Read}, false},
		{Stat{File, 0o700, 5, 5}, 5, 5, []int{7}, true},
		// The administrator may all, whatever the bits are; but who is of group 0 isn't it.
		{Stat{File, 0, 5, 7}, 0, 9, []int{7, Read, Write, Run}, true},
		{Stat{Pipe, 0, 0, 0}, 0, 0, []int{7}, true},
		{Stat{File, 0, 5, 7}, 5, 0, []int{Run}, false},
		{Stat{File, 0, 5, 0}, 6, 0, []int{Run}, false},
		{Stat{File, 0, 5, 7}, 0, 65536, nil, false},
		// What is wanted is from 0 to 7, also of the administrator.
		{every, 5, 7, []int{8}, false},
		{every, 5, 7, []int{-1}, false},
		{every, 0, 0, []int{8}, false},
		{every, 0, 0, []int{-1}, false},
		{every, 0, 0, []int{-8}, false},
		{every, 0, 0, []int{7, 8}, false},
		{every, 0, 0, []int{8, 7}, false},
		{every, 0, 0, []int{16}, false},
		{every, 0, 0, []int{math.MinInt}, false},
		{every, 0, 0, []int{math.MaxInt}, false},
		// Bits above the nine are nobody's.
		{Stat{File, 0o7000, 5, 7}, 5, 7, []int{Read}, false},
		{Stat{File, 0o7000, 5, 7}, 6, 7, []int{Write}, false},
		{Stat{File, 0o7000, 5, 7}, 6, 8, []int{Run}, false},
		// A stat that isn't right.
		{Stat{-1, 0o777, 5, 7}, 5, 7, nil, false},
		{Stat{5, 0o777, 5, 7}, 0, 0, nil, false},
		{Stat{File, -1, 5, 7}, 0, 0, nil, false},
		{Stat{File, 4096, 5, 7}, 5, 7, nil, false},
		{Stat{File, 0o777, -1, 7}, 0, 0, nil, false},
		{Stat{File, 0o777, 65536, 7}, 5, 7, nil, false},
		{Stat{File, 0o777, 5, -1}, 0, 0, nil, false},
		{Stat{File, 0o777, 5, 65536}, 5, 7, nil, false},
		// A who, or a group, that is none.
		{every, -1, 7, nil, false},
		{every, 65536, 7, nil, false},
		{every, 5, -1, nil, false},
		{every, 5, 65536, nil, false},
		{Stat{File, 0o777, 65536, 65536}, 65536, 65536, nil, false},
	} {
		if got := Can(c.s, c.who, c.group, c.want...); got != c.may {
			t.Errorf("Can(%v, %d, %d, %v): %v", c.s, c.who, c.group, c.want, got)
		}
	}
}

// P6.2: what is refused, the kind ahead of the mode.
func TestRefusal(t *testing.T) {
	for _, c := range []struct {
		s    Stat
		want api.Errno
	}{
		{Stat{File, 0o644, 5, 7}, api.OK},
		{Stat{File, 0o755, 65535, 65535}, api.OK},
		{Stat{Dir, 0o755, 0, 0}, api.OK},
		{Stat{Dir, 0o1755, 0, 0}, api.OK}, // sticky
		{Stat{File, 0o1000, 0, 0}, api.OK},
		{Stat{File, 0, 0, 0}, api.OK},
		{Stat{Link, 0o777, 0, 0}, api.OK},
		{Stat{Link, 0o1777, 0, 0}, api.OK},
		{Stat{File, 0o020, 0, 0}, api.ErrMode},
		{Stat{File, 0o002, 0, 0}, api.ErrMode},
		{Stat{Dir, 0o775, 0, 0}, api.ErrMode},
		{Stat{Dir, 0o757, 0, 0}, api.ErrMode},
		{Stat{Dir, 0o1777, 0, 0}, api.ErrMode},
		{Stat{File, 0o4755, 0, 0}, api.ErrMode},
		{Stat{File, 0o2755, 0, 0}, api.ErrMode},
		{Stat{Dir, 0o2755, 0, 0}, api.ErrMode},
		{Stat{Dir, 0o4000, 0, 0}, api.ErrMode},
		{Stat{Link, 0o4000, 0, 0}, api.ErrMode},
		{Stat{Link, 0o2777, 0, 0}, api.ErrMode},
		{Stat{Device, 0o600, 0, 0}, api.ErrType},
		{Stat{Pipe, 0, 0, 0}, api.ErrType},
		{Stat{Device, 0o4777, 0, 0}, api.ErrType},
		{Stat{Pipe, 0o2022, 0, 0}, api.ErrType},
		{Stat{Device, 4096, 0, 0}, api.ErrMode}, // Check's error is ahead
		{Stat{Pipe, 0, 0, 65536}, api.ErrArg},
		{Stat{File, 0o4777, -1, 0}, api.ErrArg},
		{Stat{File, 4096, -1, 0}, api.ErrMode},
		{Stat{File, -1, 0, 0}, api.ErrMode},
		{Stat{5, 0o644, 0, 0}, api.ErrType},
		{Stat{-1, 0o4777, 0, 0}, api.ErrType},
	} {
		if got := Refusal(c.s); got != c.want {
			t.Errorf("Refusal(%v): %d; want %d", c.s, got, c.want)
		}
		if got := Safe(c.s); got != (c.want == api.OK) {
			t.Errorf("Safe(%v): %v", c.s, got)
		}
	}
}

// P6.3: stats as numbers.
func TestNumber(t *testing.T) {
	for n, s := range map[int]Stat{
		0:                  {},
		1:                  {Group: 1},
		65535:              {Group: 65535},
		65536:              {Owner: 1},
		65535 << 16:        {Owner: 65535},
		1 << 32:            {Mode: 1},
		4095 << 32:         {Mode: 4095},
		1 << 44:            {Kind: Dir},
		2 << 44:            {Kind: Link},
		3 << 44:            {Kind: Device},
		4 << 44:            {Kind: Pipe},
		1803886592299:      {File, 420, 5, 299}, // 1803886264320 and 327680 and 299
		87960930222079:     {Pipe, 4095, 65535, 65535},
		17592186044416 + 9: {Dir, 0, 0, 9},
	} {
		if got := Number(s); got != n {
			t.Errorf("Number(%v): %d; want %d", s, got, n)
		}
		if got, e := Of(n); got != s || e != api.OK {
			t.Errorf("Of(%d): %v, %d; want %v", n, got, e, s)
		}
	}
	for _, s := range []Stat{{Kind: -1}, {Kind: 5}, {Mode: -1}, {Mode: 4096}, {Owner: -1}, {Owner: 65536}, {Group: -1}, {Group: 65536}, {-1, -1, -1, -1}, {5, 4096, 65536, 65536}} {
		if got := Number(s); got != 0 {
			t.Errorf("Number(%v), which isn't right: %d", s, got)
		}
	}
}

// P6.3: numbers that no right stat has.
func TestOfWrong(t *testing.T) {
	for _, n := range []int{
		-1, -2, -65536, -(1 << 32), -(1 << 44), -(4 << 44), -(1 << 47), math.MinInt, math.MinInt + 1,
		5 << 44, 5<<44 + 1, 6 << 44, 7 << 44, 8 << 44, 8<<44 | 1, 9<<44 | 420<<32 | 5<<16 | 7,
		16 << 44, 32 << 44, 1 << 50, 1 << 60, 1<<60 | 420<<32, 1 << 62, math.MaxInt,
	} {
		if s, e := Of(n); s != (Stat{}) || e != api.ErrForm {
			t.Errorf("Of(%d): %v, %d; want nothing, %d", n, s, e, api.ErrForm)
		}
	}
	if s, e := Of(5<<44 - 1); s != (Stat{Pipe, 4095, 65535, 65535}) || e != api.OK {
		t.Errorf("Of the highest number: %v, %d", s, e)
	}
}

// P6.3: what is cut of a mode.
func TestCut(t *testing.T) {
	for _, c := range []struct {
		mode int
		drop []int
		want int
	}{
		{0o755, nil, 0o755},
		{0o755, []int{}, 0o755},
		{0o755, []int{0}, 0o755},
		{0o4777, []int{0o22, 0o4000}, 0o755},
		{0o4777, []int{0o4022}, 0o755},
		{0o4777, []int{0o4000, 0o20, 0o2, 0o2}, 0o755},
		{0o644, []int{0o111}, 0o644},
		{4095, []int{1}, 4094},
		{4095, []int{2048}, 2047},
		{4095, []int{4095}, 0},
		{0, []int{4095}, 0},
		// Bits that no mode has are passed over.
		{4095, []int{4096}, 4095},
		{4095, []int{4096 + 1}, 4094},
		{4095, []int{8192, 1 << 40, 1 << 62, math.MinInt}, 4095},
		{4095, []int{math.MinInt + 7, 1<<40 | 0o70}, 0o7700},
		{4095, []int{-4096}, 4095},
		{4095, []int{-1}, 0}, // all bits, those of a mode too
		{4095, []int{-8}, 7},
		{4095, []int{math.MaxInt}, 0},
		{0o644, []int{65536 - 4096}, 0o644},
		// What is no mode.
		{-1, nil, 0},
		{-1, []int{-1}, 0},
		{-420, []int{1}, 0},
		{4096, nil, 0},
		{4096, []int{4096}, 0},
		{4097, []int{4096}, 0},
		{4096 + 420, []int{4096}, 0},
		{math.MinInt, nil, 0},
		{math.MaxInt, []int{1}, 0},
	} {
		was := slices.Clone(c.drop)
		if got := Cut(c.mode, c.drop...); got != c.want {
			t.Errorf("Cut(%d, %v): %d; want %d", c.mode, c.drop, got, c.want)
		}
		if !slices.Equal(was, c.drop) {
			t.Errorf("Cut(%d, %v) changes what was handed in: %v", c.mode, was, c.drop)
		}
	}
}
