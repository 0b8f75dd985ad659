package codec

import (
	"bytes"
	"math/rand"
	"reflect"
	"regexp"
	"strconv"
	"strings"
	"testing"

	"creel/api"
)

// next wants what Next answers; with an error all else must be zero.
func next(t *testing.T, text string, want api.Errno, v Value, rest string) {
	t.Helper()
	b := []byte(text)
	got, left, e := Next(b)
	if e != want || !Same(got, v) || string(left) != rest {
		t.Errorf("Next(%.60q): %v, %.60q, %d; want %v, %.60q, %d", text, got, left, e, v, rest, want)
	}
	if e != api.OK && (left != nil || !reflect.DeepEqual(got, Value{})) {
		t.Errorf("Next(%.60q): %v, %v beside %d", text, got, left, e)
	}
	if string(b) != text {
		t.Errorf("Next(%.60q) changes its bytes", text)
	}
}

// decode wants what Decode answers; with an error the value must be zero.
func decode(t *testing.T, text string, want api.Errno, v Value) {
	t.Helper()
	got, e := Decode([]byte(text))
	if e != want || !Same(got, v) || e != api.OK && !reflect.DeepEqual(got, Value{}) {
		t.Errorf("Decode(%.60q): %v, %d; want %v, %d", text, got, e, v, want)
	}
}

// P3.2, P3.4: each value that is written is read, alone and with a rest.
func TestRead(t *testing.T) {
	for _, c := range known() {
		decode(t, c.text, api.OK, c.v)
		next(t, c.text, api.OK, c.v, "")
		for _, rest := range []string{"x", ";", ")", "(", "i", "0", "i1;", "\x00"} {
			next(t, c.text+rest, api.OK, c.v, rest)
			decode(t, c.text+rest, api.ErrForm, Value{})
		}
		next(t, c.text+c.text, api.OK, c.v, c.text)
	}
	// What is read is the same in each field, empty ones too.
	for _, v := range []Value{Of(), Text(""), Of(Of(), Text(""), Int(0))} {
		b, _ := Encode(v)
		if got, _ := Decode(b); !reflect.DeepEqual(got, v) {
			t.Errorf("Decode(%q): %#v; want %#v", b, got, v)
		}
	}
}

// P3.2: a value that is cut anywhere has an end too soon.
func TestReadCut(t *testing.T) {
	for _, c := range known() {
		for n := range len(c.text) {
			next(t, c.text[:n], api.ErrEnd, Value{}, "")
			decode(t, c.text[:n], api.ErrEnd, Value{})
		}
	}
	next(t, "", api.ErrEnd, Value{}, "")
	if v, left, e := Next(nil); e != api.ErrEnd || left != nil || !reflect.DeepEqual(v, Value{}) {
		t.Errorf("Next(nil): %v, %v, %d", v, left, e)
	}
}

// wrong are texts that can't be read, and why.
func wrong() map[string]api.Errno {
	const end, form, long, loop = api.ErrEnd, api.ErrForm, api.ErrLong, api.ErrLoop
	return map[string]api.Errno{
		// Digits at the end of the bytes, whatever they are.
		"i": end, "i-": end, "i0": end, "i00": end, "i-0": end, "i01": end, "i5": end, "i-05": end,
		"i99999999999999999999": end, "i-99999999999999999999": end, "0": end, "00": end, "07": end, "5": end,
		"99999999999999999999": end,
		// Bytes that are missing.
		"1:": end, "3:ab": end, "9223372036854775807:ab": end, "131072:": end, "(": end, "(i1;": end, "(()": end, "(3:ab)": end,
		"(2:a)": end, "((((((((": end, "(((((((()": end,
		// A number that isn't written so.
		"i;": form, "i-;": form, "i-0;": form, "i00;": form, "i01;": form, "i-01;": form, "i000;": form, "i-00;": form,
		"i+5;": form, "i 5;": form, "i5 ;": form, "i--5;": form, "i5-;": form, "i5:": form, "i5)": form, "ix": form, "i5x": form,
		"i-x": form, "i0x": form, "i1.0;": form, "i1e3;": form, "i1_0;": form, "i0x1;": form, "i:": form, "i\xff": form, "i/;": form,
		// The byte behind the digits, and a 0 too many, are ahead of whether it fits.
		"i99999999999999999999x": form, "i-99999999999999999999:": form, "i099999999999999999999;": form,
		"i00000000000000000000000;": form, "99999999999999999999;": form, "099999999999999999999:": form,
		// So are bytes that are counted otherwise.
		"00:": form, "02:ab": form, "01:a": form, "2;ab": form, "2ab": form, "2)": form, "2-:": form, "-1:a": form, "-0:": form, "-": form,
		"-5": form, "+1:a": form, ":": form, ":a": form, " 1:a": form, "1 :a": form,
		// What begins no value, and ends of lists that aren't open.
		")": form, "())": form, ";": form, "x": form, "I1;": form, "[": form, "\x00": form, "(x)": form, "(i1;x": form, "(;)": form, "(,": form,
		// What is met first, from the front.
		"(i00;i": form, "(i5": end, "(i99999999999999999999;x": long, "(x99999999999999999999;": form, "(((((((((x": loop,
		"((((((((x(": form, "(x((((((((": form,
		// Numbers that don't fit 64 bits.
		"i9223372036854775808;": long, "i-9223372036854775809;": long, "i99999999999999999999;": long, "i-99999999999999999999;": long,
		"i18446744073709551616;": long, "i18446744073709551621;": long, "i10000000000000000000000000000000000000000;": long,
		"9223372036854775808:": long, "18446744073709551617:a": long, "99999999999999999999:a": long, "(9223372036854775808:)": long,
		// Lists that are deeper than 8, whatever stands behind.
		"(((((((((": loop, "(((((((((()": loop, "((((((((()))))))))": loop, "(((((((((i1;)))))))))": loop, "(i1;()((((((()": end,
		"(i1;()((((((((": loop, "(((((((()((": loop, "(((((((()()": end, "(((((((())()": end,
	}
}

// P3.2: each wrong text's error; Decode tells the same but for what is left.
func TestReadWrong(t *testing.T) {
	for text, want := range wrong() {
		if text == "())" { // the value at the beginning is right
			next(t, text, api.OK, Of(), ")")
		} else {
			next(t, text, want, Value{}, "")
		}
		decode(t, text, want, Value{})
	}
	decode(t, "i1;i2;", api.ErrForm, Value{})
	decode(t, "i1;i00;", api.ErrForm, Value{})
	decode(t, "()(", api.ErrForm, Value{})
}

// P3.2: more bytes than the bound are too long, ahead of all else.
func TestReadLong(t *testing.T) {
	for _, head := range []string{"", "i1;", "x", "(((((((((", "i01;", "9223372036854775808:"} {
		text := head + strings.Repeat("0", api.MaxBytes+1-len(head))
		next(t, text, api.ErrLong, Value{}, "")
		decode(t, text, api.ErrLong, Value{})
	}
	rest := strings.Repeat("x", api.MaxBytes-3)
	next(t, "i1;"+rest, api.OK, Int(1), rest)
	decode(t, "i1;"+rest, api.ErrForm, Value{})
	decode(t, "i"+strings.Repeat("9", api.MaxBytes-1), api.ErrEnd, Value{})
	decode(t, "i"+strings.Repeat("9", api.MaxBytes-2)+";", api.ErrLong, Value{})
	decode(t, "i"+strings.Repeat("0", api.MaxBytes-2)+";", api.ErrForm, Value{})
	full := Text(strings.Repeat("0", api.MaxBytes-7))
	decode(t, "131065:"+string(full.B), api.OK, full)
	decode(t, "131066:"+string(full.B), api.ErrEnd, Value{})
	decode(t, "("+strings.Repeat("()", api.MaxBytes/2-1)+")", api.OK, Of(lists(api.MaxBytes/2-1)...))
	decode(t, strings.Repeat("(", api.MaxBytes), api.ErrLoop, Value{})
}

// lists is so many empty lists.
func lists(n int) []Value {
	l := make([]Value, n)
	for i := range l {
		l[i].Kind = List
	}
	return l
}

var (
	numeral = regexp.MustCompile(`^(0|-?[1-9][0-9]*)$`)
	signed  = regexp.MustCompile(`^i(-?[0-9]*)`)
	counted = regexp.MustCompile(`^([0-9]+)`)
)

// model is another reader, that is plain and slow: it answers the value at the
// beginning, how many bytes it has, and the error.
func model(text string, deep int) (Value, int, api.Errno) {
	read := func(m []string, end string) (int, int, api.Errno) {
		at := len(m[0])
		if at == len(text) {
			return 0, 0, api.ErrEnd
		}
		if text[at:at+1] != end || !numeral.MatchString(m[1]) {
			return 0, 0, api.ErrForm
		}
		n, err := strconv.ParseInt(m[1], 10, 64)
		if err != nil {
			return 0, 0, api.ErrLong
		}
		return int(n), at + 1, api.OK
	}
	if text == "" {
		return Value{}, 0, api.ErrEnd
	}
	if m := signed.FindStringSubmatch(text); m != nil {
		n, at, e := read(m, ";")
		return Value{N: n}, at, e
	}
	if m := counted.FindStringSubmatch(text); m != nil {
		n, at, e := read(m, ":")
		if e == api.OK && len(text[at:]) < n {
			e = api.ErrEnd
		}
		if e != api.OK {
			return Value{}, 0, e
		}
		return Value{Kind: Bytes, B: []byte(text[at : at+n])}, at + n, e
	}
	if text[0] != '(' {
		return Value{}, 0, api.ErrForm
	}
	if deep > 8 {
		return Value{}, 0, api.ErrLoop
	}
	v, at := Value{Kind: List}, 1
	for !strings.HasPrefix(text[at:], ")") {
		inner, n, e := model(text[at:], deep+1)
		if e != api.OK {
			return Value{}, 0, e
		}
		v.L, at = append(v.L, inner), at+n
	}
	return v, at + 1, api.OK
}

// held holds what is read of a text against the model, and against what is
// written: what is read must be written as it was.
func held(t *testing.T, text string) {
	t.Helper()
	v, n, e := model(text, 1)
	if e != api.OK {
		n = len(text)
	}
	next(t, text, e, v, text[n:])
	if e == api.OK && n < len(text) {
		v, e = Value{}, api.ErrForm
	}
	decode(t, text, e, v)
	if got, e := Decode([]byte(text)); e == api.OK {
		if b, e := Encode(got); e != api.OK || string(b) != text {
			t.Errorf("Encode(Decode(%q)): %q, %d", text, b, e)
		}
	}
}

// P3.2, P3.4: all short texts of the signs that matter.
func TestReadAllShortTexts(t *testing.T) {
	const signs, longest = "i-012;:()x", 5
	texts := []string{""}
	for range longest {
		var longer []string
		for _, text := range texts {
			held(t, text)
			for _, sign := range signs {
				longer = append(longer, text+string(sign))
			}
		}
		texts = longer
	}
	for _, text := range texts {
		held(t, text)
	}
}

// chance is any value, at most so deep.
func chance(r *rand.Rand, deep int) Value {
	switch k := r.Intn(4); {
	case k == 0:
		return Int(int(r.Uint64()) >> r.Intn(64))
	case k == 1 || deep == 0:
		b := make([]byte, r.Intn(30)*r.Intn(6))
		r.Read(b)
		return Text(string(b))
	}
	var l []Value
	for range r.Intn(5) {
		l = append(l, chance(r, deep-1))
	}
	return Of(l...)
}

// P3.4: what is encoded is decoded as it was, and what one byte is turned of,
// put into or taken from is read as the model reads it.
func TestBackAndForth(t *testing.T) {
	r := rand.New(rand.NewSource(3))
	for range 3000 {
		v := chance(r, 1+r.Intn(10))
		b, e := Encode(v)
		if Depth(v) > Deepest {
			errs(t, "Encode of what is too deep", e, api.ErrLoop)
			continue
		}
		errs(t, "Encode", e, api.OK)
		decode(t, string(b), api.OK, v)
		held(t, string(b))
		at := r.Intn(len(b))
		held(t, string(b[:at]))
		held(t, string(b[:at])+string(b[at+1:]))
		held(t, string(b[:at])+string("i-019;:()"[r.Intn(9)])+string(b[at:]))
		held(t, string(b[:at])+string("i-019;:()"[r.Intn(9)])+string(b[at+1:]))
		if again, e := Encode(v); e != api.OK || !bytes.Equal(again, b) {
			t.Errorf("Encode again: %q, %d", again, e)
		}
	}
}
