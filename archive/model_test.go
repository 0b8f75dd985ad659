package archive

import (
	"bytes"
	"crypto/sha256"
	"encoding/binary"
	"fmt"
	"regexp"
	"slices"
	"strings"
	"testing"

	"creel/api"
)

// What the package answers, told a second time from the chapter's words, by
// texts.

var (
	isText = regexp.MustCompile(`^(/[a-z0-9._-]{1,24}){1,8}$`)
	isLink = regexp.MustCompile(`^[a-z0-9._-]{1,24}(/[a-z0-9._-]{1,24})*$`)
)

// dotted tells whether one of the parts of a text is "." or "..".
func dotted(text string) bool {
	return strings.Contains(text+"/", "/./") || strings.Contains(text+"/", "/../")
}

// textOf is the text of an entry's path, whatever its names are.
func textOf(x Entry) string { return "/" + strings.Join(x.Path, "/") }

// isPath tells whether an entry's path is one with names that can be told by a
// text.
func isPath(x Entry) bool {
	text := textOf(x)
	return isText.MatchString(text) && len(text) <= 160 && !dotted(text) && strings.Count(text, "/") == len(x.Path)
}

// leads tells whether a link that stands so many directories deep leads
// somewhere.
func leads(deep int, link string) bool {
	if !isLink.MatchString(link) || len(link) > 160 {
		return false
	}
	for part := range strings.SplitSeq(link, "/") {
		switch part {
		case ".":
		case "..":
			deep--
		default:
			deep++
		}
		if deep < 0 || deep > 8 {
			return false
		}
	}
	return true
}

// why is why an entry is refused behind those that were there.
func why(x Entry, ahead []Entry) api.Errno {
	kinds := map[string]int{"": 1}
	for _, y := range ahead {
		kinds[textOf(y)] = y.Kind
	}
	text := textOf(x)
	_, was := kinds[text]
	in, there := kinds[text[:strings.LastIndex(text, "/")]]
	for _, c := range []struct {
		wrong bool
		e     api.Errno
	}{
		{!isPath(x), api.ErrPath},
		{x.Kind < 0 || x.Kind > 2, api.ErrType},
		{x.Mode < 0 || x.Mode > 4095 || x.Mode&0o6000 > 0 || x.Kind < 2 && x.Mode&0o22 > 0, api.ErrMode},
		{x.Kind == 1 && len(x.Data) > 0, api.ErrForm},
		{len(x.Data) > 512, api.ErrLong},
		{x.Kind == 2 && !leads(len(x.Path)-1, string(x.Data)), api.ErrPath},
		{was, api.ErrTwice},
		{!there || in != 1, api.ErrNone},
	} {
		if c.wrong {
			return c.e
		}
	}
	return api.OK
}

// modelCheck is another Check.
func modelCheck(l []Entry) (int, api.Errno) {
	if len(l) > 40 {
		return 40, api.ErrLong
	}
	for i, x := range l {
		if e := why(x, l[:i]); e != api.OK {
			return i, e
		}
	}
	return len(l), api.OK
}

// eight are the bytes of the digest of a path's text and an entry's bytes.
func eight(text string, data []byte) string {
	h := sha256.New()
	for _, part := range []string{text, string(data)} {
		binary.Write(h, binary.BigEndian, uint32(len(part)))
		h.Write([]byte(part))
	}
	return string(h.Sum(nil)[:8])
}

// part is an entry as bytes, right or not, of these parts.
func part(text string, kind, mode int, data []byte, sum string) string {
	var b bytes.Buffer
	binary.Write(&b, binary.BigEndian, struct {
		Kind uint8
		Mode uint16
		Size uint8
	}{uint8(kind), uint16(mode), uint8(len(text))})
	b.WriteString(text)
	binary.Write(&b, binary.BigEndian, uint16(len(data)))
	b.Write(data)
	return b.String() + sum
}

// entry is an entry as bytes, right or not, with its digest.
func entry(x Entry) string {
	return part(textOf(x), x.Kind, x.Mode, x.Data, eight(textOf(x), x.Data))
}

// raw are entries as bytes, right or not, with their digests.
func raw(l ...Entry) []byte {
	b := "CREL" + string([]byte{byte(len(l))})
	for _, x := range l {
		b += entry(x)
	}
	return []byte(b)
}

// writable tells whether an entry can be told as bytes: each part fits its own,
// and no name has a "/" in it, which would be two.
func writable(x Entry) bool {
	slashed := slices.ContainsFunc(x.Path, func(name string) bool { return strings.Contains(name, "/") })
	return x.Kind == x.Kind&0xff && x.Mode == x.Mode&0xffff && len(textOf(x)) <= 0xff && len(x.Data) <= 0xffff && !slashed
}

// modelDecode is another Decode.
func modelDecode(b []byte) ([]Entry, int, api.Errno) {
	s, begins := strings.CutPrefix(string(b), "CREL")
	switch {
	case !begins:
		return nil, 0, api.ErrForm
	case s == "":
		return nil, 0, api.ErrEnd
	case s[0] > 40:
		return nil, 0, api.ErrLong
	}
	many, s := int(s[0]), s[1:]
	var l []Entry
	for len(l) < many {
		// How long it is, as far as it can be told.
		text, data, end := 0, 0, 4
		if len(s) >= end {
			text = int(s[3])
			end += text + 2
		}
		if len(s) >= end && end > 4 {
			data = int(binary.BigEndian.Uint16([]byte(s[end-2:])))
			end += data + 8
		}
		if len(s) < end {
			return nil, len(l), api.ErrEnd
		}
		name := s[4 : 4+text]
		x := Entry{Path: strings.Split(strings.TrimPrefix(name, "/"), "/"), Kind: int(s[0]), Mode: int(s[1])<<8 + int(s[2]), Data: []byte(s[6+text : 6+text+data])}
		if !strings.HasPrefix(name, "/") {
			x.Path = nil
		}
		e := why(x, l)
		if e == api.OK && s[end-8:end] != eight(name, x.Data) {
			e = api.ErrSum
		}
		if e != api.OK {
			return nil, len(l), e
		}
		l, s = append(l, x), s[end:]
	}
	if s != "" {
		return nil, len(l), api.ErrForm
	}
	return l, len(l), api.OK
}

// shown is a list of entries as a text that no other list has.
func shown(l []Entry) string {
	var s []string
	for _, x := range l {
		s = append(s, fmt.Sprintf("%q %d %d %q", x.Path, x.Kind, x.Mode, x.Data))
	}
	return strings.Join(s, "\n")
}

// decodes wants Decode of bytes to answer so; beside an error no entries.
func decodes(t *testing.T, what string, b []byte, want []Entry, wantNo int, wantE api.Errno) {
	t.Helper()
	l, n, e := Decode(b)
	if n != wantNo || e != wantE {
		t.Errorf("%s: Decode(%.99q): %d, %d; want %d, %d", what, b, n, e, wantNo, wantE)
	}
	if shown(l) != shown(want) || e != api.OK && l != nil {
		t.Errorf("%s: Decode(%.99q): %.300s; want %.300s", what, b, shown(l), shown(want))
	}
}

// wants wants Check, Encode, and, if all can be told as bytes, Decode of entries to
// answer so.
func wants(t *testing.T, what string, l []Entry, wantNo int, wantE api.Errno) {
	t.Helper()
	if n, e := Check(l...); n != wantNo || e != wantE {
		t.Errorf("%s: Check: %d, %d; want %d, %d\n%.300s", what, n, e, wantNo, wantE, shown(l))
	}
	b, e := Encode(l...)
	if e != wantE || e != api.OK && b != nil || e == api.OK && !bytes.Equal(b, raw(l...)) {
		t.Errorf("%s: Encode: %.99q, %d; want %d\n%.300s", what, b, e, wantE, shown(l))
	}
	if slices.ContainsFunc(l, func(x Entry) bool { return !writable(x) }) || len(l) > 255 {
		return
	}
	if wantE == api.OK {
		decodes(t, what, raw(l...), l, wantNo, wantE)
	} else if len(l) <= 40 {
		decodes(t, what, raw(l...), nil, wantNo, wantE)
	} else {
		decodes(t, what, raw(l...), nil, 0, api.ErrLong)
	}
}

// held holds what is asked of entries against the model.
func held(t *testing.T, what string, l []Entry) {
	t.Helper()
	n, e := modelCheck(l)
	wants(t, what, l, n, e)
}

// heldBytes holds what is asked of bytes against the model, and answers what that
// tells.
func heldBytes(t *testing.T, what string, b []byte) ([]Entry, api.Errno) {
	t.Helper()
	l, n, e := modelDecode(b)
	decodes(t, what, b, l, n, e)
	return l, e
}
