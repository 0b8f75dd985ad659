package codec

import (
	"math"
	"reflect"
	"strings"
	"testing"

	"creel/api"
)

// nested is a value in so many lists.
func nested(v Value, lists int) Value {
	for range lists {
		v = Of(v)
	}
	return v
}

// looped is a value that holds itself. It has no end, so that it can't be
// copied: only how deep it is can be told.
func looped() Value {
	l := make([]Value, 2)
	l[0], l[1] = Int(1), Value{Kind: List, L: l}
	return l[1]
}

// known are values, and how they are written.
func known() []struct {
	v    Value
	text string
} {
	return []struct {
		v    Value
		text string
	}{
		{Int(0), "i0;"},
		{Int(5), "i5;"},
		{Int(-7), "i-7;"},
		{Int(10), "i10;"},
		{Int(-100), "i-100;"},
		{Int(math.MaxInt64), "i9223372036854775807;"},
		{Int(math.MinInt64), "i-9223372036854775808;"},
		{Text(""), "0:"},
		{Text("ab"), "2:ab"},
		{Text("a:b"), "3:a:b"},
		{Text("i1;(2:"), "6:i1;(2:"},
		{Text("0123456789"), "10:0123456789"},
		{Text("\x00\xff\n"), "3:\x00\xff\n"},
		{Of(), "()"},
		{Of(Int(12), Text("ab"), Of()), "(i12;2:ab())"},
		{Of(Of(), Of(Of(), Int(1)), Text("")), "(()(()i1;)0:)"},
		{nested(Int(3), 8), "((((((((i3;))))))))"},
		{nested(Of(), 7), "(((((((())))))))"},
	}
}

// errs wants an error.
func errs(t *testing.T, what string, got, want api.Errno) {
	t.Helper()
	if got != want {
		t.Errorf("%s: %d; want %d", what, got, want)
	}
}

// P3.1: the values, field by field.
func TestMakers(t *testing.T) {
	for _, n := range []int{0, 1, -1, math.MaxInt64, math.MinInt64} {
		if got := Int(n); !reflect.DeepEqual(got, Value{Kind: 0, N: n}) {
			t.Errorf("Int(%d): %v", n, got)
		}
	}
	if got := Text("a\x00b"); !reflect.DeepEqual(got, Value{Kind: 1, B: []byte("a\x00b")}) {
		t.Errorf("Text: %v", got)
	}
	if got := Text(""); got.Kind != 1 || got.N != 0 || len(got.B) != 0 || got.L != nil {
		t.Errorf("Text of nothing: %v", got)
	}
	inner := Of(Text("x"))
	want := Value{Kind: 2, L: []Value{{N: 4}, {Kind: 2, L: []Value{{Kind: 1, B: []byte("x")}}}}}
	if got := Of(Int(4), inner); !reflect.DeepEqual(got, want) {
		t.Errorf("Of: %v", got)
	}
	if got := Of(); got.Kind != 2 || got.N != 0 || got.B != nil || len(got.L) != 0 {
		t.Errorf("Of nothing: %v", got)
	}
	if Number != 0 || Bytes != 1 || List != 2 || Deepest != 8 {
		t.Error("the constants")
	}
}

// P3.1: how each value is written, and that it is right.
func TestEncode(t *testing.T) {
	for _, c := range known() {
		errs(t, "Check of "+c.text, Check(c.v), api.OK)
		if b, e := Encode(c.v); e != api.OK || string(b) != c.text {
			t.Errorf("Encode: %q, %d; want %q", b, e, c.text)
		}
	}
	if b, e := Encode(Value{}); e != api.OK || string(b) != "i0;" {
		t.Errorf("the zero value: %q, %d", b, e)
	}
	// What is empty is nothing that a kind may not have.
	if b, e := Encode(Value{B: []byte{}, L: []Value{}}); e != api.OK || string(b) != "i0;" {
		t.Errorf("a number with empty lists: %q, %d", b, e)
	}
	if b, e := Encode(Value{Kind: Bytes}); e != api.OK || string(b) != "0:" {
		t.Errorf("bytes nil: %q, %d", b, e)
	}
}

// P3.1: each thing that a kind doesn't have, and kinds that are none.
func TestCheckType(t *testing.T) {
	one, list := []byte{0}, []Value{{}}
	for i, v := range []Value{
		{Kind: 3}, {Kind: -1}, {Kind: math.MaxInt}, {Kind: math.MinInt},
		{Kind: Number, B: one}, {Kind: Number, L: list}, {Kind: Number, N: 1, B: one, L: list},
		{Kind: Bytes, N: 1}, {Kind: Bytes, N: -1, B: one}, {Kind: Bytes, B: one, L: list},
		{Kind: List, N: 1}, {Kind: List, N: -1, L: list}, {Kind: List, B: one, L: list},
		{Kind: 3, L: list}, {Kind: Number, L: []Value{nested(Of(), 9)}},
	} {
		for _, w := range []Value{v, Of(v), nested(v, 5), Of(Int(1), Text("a"), Of(Of(), v, Int(2)))} {
			errs(t, "Check", Check(w), api.ErrType)
			if b, e := Encode(w); b != nil || e != api.ErrType {
				t.Errorf("%d: Encode: %v, %d", i, b, e)
			}
		}
	}
	errs(t, "what holds itself, strange", Check(Value{Kind: 3, L: looped().L}), api.ErrType)
	// What stands behind what is strange matters nothing, nor how long it is.
	errs(t, "the last of many", Check(Of(Int(1), Text(strings.Repeat("a", api.MaxBytes)), Value{Kind: 9})), api.ErrType)
}

// P3.1: a depth of 8 is right, and of 9 isn't, whatever the innermost is.
func TestCheckDepth(t *testing.T) {
	for _, c := range []struct {
		v    Value
		want api.Errno
	}{
		{nested(Int(1), 8), api.OK},
		{nested(Of(), 7), api.OK},
		{nested(Int(1), 9), api.ErrLoop},
		{nested(Of(), 8), api.ErrLoop},
		{nested(Text("a"), 300), api.ErrLoop},
		{Of(Int(1), nested(Int(1), 7), Of(), nested(Of(), 6)), api.OK},
		{Of(Int(1), nested(Int(1), 8), Of()), api.ErrLoop},
		{Of(Of(), Of(Of(), nested(Of(), 6))), api.ErrLoop},
		{looped(), api.ErrLoop},
		{Of(Text(strings.Repeat("a", api.MaxBytes)), nested(Of(), 8)), api.ErrLoop},
	} {
		errs(t, "Check", Check(c.v), c.want)
		if b, e := Encode(c.v); e != c.want || (e != api.OK) != (b == nil) {
			t.Errorf("Encode: %q, %d", b, e)
		}
	}
}

// P3.1: of what is strange and what is too deep, the first value's is told,
// and a list is ahead of what is in it.
func TestCheckFirst(t *testing.T) {
	strange := Value{Kind: 7}
	for _, c := range []struct {
		name string
		v    Value
		want api.Errno
	}{
		{"a strange list too deep", Value{Kind: List, N: 1, L: []Value{nested(Of(), 8)}}, api.ErrType},
		{"a list too deep, strange at its end", nested(strange, 9), api.ErrLoop},
		{"a list too deep, strange behind", Of(nested(Of(), 8), strange), api.ErrLoop},
		{"a list too deep, strange ahead", Of(strange, nested(Of(), 8)), api.ErrLoop},
		{"a list that isn't, strange at its end", nested(strange, 8), api.ErrType},
	} {
		errs(t, c.name, Check(c.v), c.want)
	}
}

// P3.1: the bytes' bound, of bytes and of a list of all kinds.
func TestCheckLong(t *testing.T) {
	const room = api.MaxBytes - len("131065:")
	if room != 131065 {
		t.Fatal("the bound is another one")
	}
	full := Text(strings.Repeat("a", room))
	if b, e := Encode(full); e != api.OK || len(b) != api.MaxBytes {
		t.Errorf("Encode: %d bytes, %d", len(b), e)
	} else if v, e := Decode(b); e != api.OK || !Same(v, full) {
		t.Errorf("Decode of the longest: %d", e)
	}
	errs(t, "one byte more", Check(Text(strings.Repeat("a", room+1))), api.ErrLong)
	errs(t, "the longest, in a list", Check(Of(full)), api.ErrLong)
	for _, c := range []struct {
		room int
		want api.Errno
	}{{room - 12, api.OK}, {room - 11, api.OK}, {room - 10, api.ErrLong}} {
		long := Text(strings.Repeat("a", c.room))
		for _, v := range []Value{Of(Int(-1234), Of(), long), Of(Of(long), Int(-1234))} {
			b, e := Encode(v)
			if e != c.want || e == api.OK && len(b) != api.MaxBytes-room+11+c.room || e != api.OK && b != nil {
				t.Errorf("%d bytes in lists: %d, %d", c.room, len(b), e)
			}
		}
	}
	many := make([]Value, api.MaxBytes/3)
	errs(t, "as many numbers as fit", Check(Of(many...)), api.OK)
	errs(t, "one more", Check(Of(append(many, Int(0))...)), api.ErrLong)
}

// P3.3: whatever one of two values has and the other hasn't, is a difference.
func TestSame(t *testing.T) {
	var all []Value
	for _, c := range known() {
		all = append(all, c.v)
	}
	one := []byte{1}
	all = append(all, Text("aB"), Text("a"), Text("abc"), Of(Int(12), Text("ab")), Of(Text("ab"), Int(12), Of()),
		Of(Int(12), Text("ab"), Of(Of())), nested(Int(3), 300), nested(Int(4), 300),
		Value{Kind: 3}, Value{Kind: -1}, Value{B: one}, Value{L: []Value{{}}}, Value{Kind: 3, N: 1, B: one, L: []Value{{}}},
		Value{Kind: List, N: 1}, Value{Kind: List, B: one}, Value{Kind: List, B: one, L: []Value{{N: 1}}})
	for i, a := range all {
		for j, b := range all {
			if Same(a, own(b)) != (i == j) {
				t.Errorf("Same(%v, %v): %v", a, b, i != j)
			}
		}
	}
	if !Same(Value{Kind: Bytes, B: []byte{}}, Value{Kind: Bytes}) || !Same(Value{Kind: List, L: []Value{}}, Value{Kind: List}) {
		t.Error("what is empty isn't the same as nil")
	}
}

// P3.3: the depth of each kind, and that no more than 9 is told.
func TestDepth(t *testing.T) {
	for _, c := range []struct {
		v    Value
		want int
	}{
		{Int(5), 0}, {Text("()"), 0}, {Of(), 1}, {Of(Int(1), Text("")), 1},
		{Of(Of()), 2}, {Of(Int(1), Of(), Of(Of(), Int(2)), Of()), 3},
		{Of(Of(Of()), Of()), 3}, {Of(Of(), Of(Of())), 3},
		{nested(Int(1), 8), 8}, {nested(Of(), 7), 8}, {nested(Int(1), 9), 9}, {nested(Of(), 9), 9},
		{nested(Of(), 1<<10), 9}, {Of(Int(1), nested(Int(1), 8), Of()), 9}, {looped(), 9},
		// Only lists are deep.
		{Value{Kind: 3, L: []Value{Of()}}, 0}, {Value{L: []Value{Of()}}, 0}, {Of(Value{Kind: Bytes, L: []Value{Of()}}), 1},
	} {
		if got := Depth(c.v); got != c.want {
			t.Errorf("Depth(%v): %d; want %d", c.v, got, c.want)
		}
	}
}

// P3.3: places in lists, and those that aren't there.
func TestAt(t *testing.T) {
	v := Of(Int(4), Text("ab"), Of(Of(Text("deep")), Int(6)), Of())
	for _, c := range []struct {
		path []int
		want Value
	}{
		{nil, v}, {[]int{0}, Int(4)}, {[]int{1}, Text("ab")}, {[]int{2}, Of(Of(Text("deep")), Int(6))},
		{[]int{2, 0}, Of(Text("deep"))}, {[]int{2, 0, 0}, Text("deep")}, {[]int{2, 1}, Int(6)}, {[]int{3}, Of()},
	} {
		if got, e := At(v, c.path...); e != api.OK || !Same(got, c.want) {
			t.Errorf("At(%v): %v, %d", c.path, got, e)
		}
	}
	for _, path := range [][]int{
		{4}, {-1}, {math.MaxInt}, {math.MinInt}, {0, 0}, {1, 0}, {2, 2}, {2, -1}, {2, 0, 1}, {2, 0, 0, 0}, {3, 0}, {9, 0}, {-1, 2},
	} {
		if got, e := At(v, path...); e != api.ErrNone || !reflect.DeepEqual(got, Value{}) {
			t.Errorf("At(%v): %v, %d", path, got, e)
		}
	}
	if got, e := At(Int(3)); e != api.OK || !Same(got, Int(3)) {
		t.Errorf("At no place of a number: %v, %d", got, e)
	}
	// What isn't a list has no places, even where it has values.
	for _, v := range []Value{{L: []Value{{}}}, {Kind: Bytes, L: []Value{{}}}, {Kind: 3, L: []Value{{}}}} {
		if got, e := At(v, 0); e != api.ErrNone || !reflect.DeepEqual(got, Value{}) {
			t.Errorf("At in %v: %v, %d", v, got, e)
		}
	}
	deep := nested(Int(1), 300)
	if got, e := At(deep, make([]int, 300)...); e != api.OK || !Same(got, Int(1)) {
		t.Errorf("At 300 places: %v, %d", got, e)
	}
}

// P3.4: no answer shares memory with what was handed in, nor changes it.
func TestNothingIsShared(t *testing.T) {
	b := []byte("ab")
	l := []Value{Int(1), {Kind: Bytes, B: b}, {Kind: List, L: []Value{{Kind: Bytes, B: b}}}}
	want := Of(Int(1), Text("ab"), Of(Text("ab")))
	made := Of(l...)
	if !Same(made, want) {
		t.Fatalf("Of: %v", made)
	}
	whole, _ := At(made)
	part, _ := At(made, 2, 0)
	made.L[1].B[0] = 'x'
	if string(b) != "ab" || made.L[2].L[0].B[0] != 'a' {
		t.Error("two lists of an answer of Of are one, or are what was handed in")
	}
	b[1] = 'y'
	l[0].N = 7
	made.L[2].L[0].B[1] = 'z'
	made.L[2].L[0] = Int(9)
	if !Same(whole, want) || !Same(part, Text("ab")) {
		t.Errorf("At: %v, %v", whole, part)
	}
	if made.L[0].N != 1 || string(made.L[1].B) != "xb" {
		t.Errorf("Of keeps what was handed in: %v", made)
	}
}

// P3.4: the same of bytes: what is encoded, and what is decoded.
func TestNoBytesAreShared(t *testing.T) {
	v := Of(Text("ab"), Text("ab"))
	coded, _ := Encode(v)
	again, _ := Encode(v)
	copy(coded, "########")
	if string(again) != "(2:ab2:ab)" || !Same(v, Of(Text("ab"), Text("ab"))) {
		t.Error("Encode shares its answers, or what was handed in")
	}
	single := Text("ab")
	coded, _ = Encode(single)
	coded[2] = '#'
	if string(single.B) != "ab" {
		t.Error("Encode shares the bytes")
	}
	b := []byte("(2:ab2:cd)3:efg")
	got, rest, e := Next(b)
	if e != api.OK || !Same(got, Of(Text("ab"), Text("cd"))) || string(rest) != "3:efg" {
		t.Fatalf("Next: %v, %q, %d", got, rest, e)
	}
	got.L[0].B = append(got.L[0].B, "######"...)
	got.L[1].B[0] = '#'
	rest[0] = '#'
	_ = append(rest, '#')
	if string(b) != "(2:ab2:cd)3:efg" {
		t.Errorf("Next shares its bytes: %q", b)
	}
	clear(b)
	if string(got.L[0].B) != "ab######" || string(got.L[1].B) != "#d" || string(rest) != "#:efg" {
		t.Error("Next keeps its bytes, or shares its answers")
	}
	b = []byte("2:ab")
	got, _ = Decode(b)
	clear(b)
	if string(got.B) != "ab" {
		t.Error("Decode keeps its bytes")
	}
}
