package digest

import (
	"bytes"
	"crypto/sha256"
	"encoding/binary"
	"math/rand"
	"strings"
	"testing"

	"creel/api"
)

// filled is so many bytes, no two blocks of them alike.
func filled(n int) []byte {
	b := make([]byte, n)
	rand.New(rand.NewSource(int64(n))).Read(b)
	return b
}

// cut cuts a text into pieces, some of them empty or nil.
func cut(r *rand.Rand, text []byte) [][]byte {
	var l [][]byte
	for len(text) > 0 {
		n := r.Intn(min(len(text), 150) + 1)
		l = append(l, text[:n])
		if r.Intn(5) == 0 {
			l = append(l, nil)
		}
		text = text[n:]
	}
	return l
}

// withLengths is all texts, each with four bytes of its length ahead.
func withLengths(l ...[]byte) []byte {
	var all []byte
	for _, text := range l {
		all = append(binary.BigEndian.AppendUint32(all, uint32(len(text))), text...)
	}
	return all
}

// P2.1: the published digests.
func TestOfKnownTexts(t *testing.T) {
	for _, c := range []struct{ text, want string }{
		{"", "e3b0c44298fc1c149afbf4c8996fb92427ae41e4649b934ca495991b7852b855"},
		{"a", "ca978112ca1bbdcafac231b39a23dc4da786eff8147c4e72b9807785afee48bb"},
		{"abc", "ba7816bf8f01cfea414140de5dae2223b00361a396177a9cb410ff61f20015ad"},
		{"abcdbcdecdefdefgefghfghighijhijkijkljklmklmnlmnomnopnopq", "248d6a61d20638b8e5c026930c3e6039a33ce45964ff2167f6ecedd419db06c1"},
		{"abcdefghbcdefghicdefghijdefghijkefghijklfghijklmghijklmnhijklmnoijklmnopjklmnopqklmnopqrlmnopqrsmnopqrstnopqrstu", "cf5b16a778af8380036ce59e7b0492370b249b11e8f07a51afac45037afee9d1"},
		{strings.Repeat("a", 1000000), "cdc76e5c9914fb9281a1c7e284d73e67f1809a48a497200e046d39ccc7112cd0"},
	} {
		if got := Hex(Of([]byte(c.text))); got != c.want {
			t.Errorf("Of(%.20q, %d bytes) = %s, want %s", c.text, len(c.text), got, c.want)
		}
	}
}

// P2.1: every length about the edges of a block and of its room for the count.
func TestOfEveryLength(t *testing.T) {
	for n := 0; n <= 400; n++ {
		text := filled(n)
		if got, want := Of(text), sha256.Sum256(text); got != want {
			t.Errorf("%d bytes: %x, want %x", n, got, want)
		}
	}
	// The count of bits has more than one, two, three and four bytes.
	for _, n := range []int{31, 32, 8191, 8192, 2097151, 2097152} {
		text := filled(n)
		if got, want := Of(text), sha256.Sum256(text); got != want {
			t.Errorf("%d bytes: %x, want %x", n, got, want)
		}
	}
}

// P2.1: the count of bits needs more than four bytes from 2^29 bytes on.
func TestCountOfBitsIsWide(t *testing.T) {
	if testing.Short() {
		t.Skip("turns 512 MiB")
	}
	piece := make([]byte, 1<<22)
	var s Stream
	want := sha256.New()
	for range 1 << 7 {
		s.Write(piece)
		want.Write(piece)
	}
	s.Write([]byte("x"))
	want.Write([]byte("x"))
	if got := s.Sum(); !bytes.Equal(got[:], want.Sum(nil)) {
		t.Errorf("%x, want %x", got, want.Sum(nil))
	}
	if s.Len() != 1<<29+1 {
		t.Error(s.Len())
	}
}

// P2.1, P2.3: pieces don't matter for Of and for a stream.
func TestPiecesDontMatterForOf(t *testing.T) {
	r := rand.New(rand.NewSource(1))
	for range 500 {
		text := filled(r.Intn(700))
		want := Of(text)
		l := cut(r, text)
		if got := Of(l...); got != want {
			t.Fatalf("%d bytes in %d pieces: %x, want %x", len(text), len(l), got, want)
		}
		var s Stream
		for i, piece := range l {
			if i%2 == 0 {
				s.Write(piece)
			} else {
				s.Write(nil, piece, []byte{})
			}
		}
		if got := s.Sum(); got != want || s.Len() != len(text) {
			t.Fatalf("stream of %d bytes: %x, want %x; length %d", len(text), got, want, s.Len())
		}
	}
	if Of() != Of(nil) || Of() != Of([]byte{}, nil) {
		t.Error("no bytes have one digest")
	}
}

// P2.1, P2.3: pieces matter for Framed.
func TestFramed(t *testing.T) {
	if Framed() != Of() {
		t.Error("no texts: the digest of no bytes")
	}
	if Framed(nil) != Of([]byte{0, 0, 0, 0}) || Framed([]byte{}) != Framed(nil) {
		t.Error("an empty text has its length ahead, too")
	}
	if Framed([]byte("ab"), []byte("c")) != Of([]byte{0, 0, 0, 2, 'a', 'b', 0, 0, 0, 1, 'c'}) {
		t.Error("each text has its own length ahead")
	}
	seen := map[[32]byte]string{}
	for _, l := range [][]string{{}, {""}, {"", ""}, {"abc"}, {"abc", ""}, {"", "abc"}, {"a", "bc"}, {"ab", "c"}, {"a", "b", "c"}, {"c", "ab"}} {
		var texts [][]byte
		for _, s := range l {
			texts = append(texts, []byte(s))
		}
		d, told := Framed(texts...), strings.Join(l, "|")
		if other, ok := seen[d]; ok {
			t.Errorf("%q and %q have one framed digest", told, other)
		}
		seen[d] = told
	}
}

// P2.1: all four bytes of a length stand ahead of it, the highest one first.
func TestFramedLengths(t *testing.T) {
	for _, n := range []int{1, 255, 256, 257, 65535, 65536, 1<<24 - 1, 1<<24 + 65536 + 256 + 1} {
		text := filled(n)
		if got, want := Framed(text, []byte("x")), sha256.Sum256(withLengths(text, []byte("x"))); got != want {
			t.Errorf("%d bytes: %x, want %x", n, got, want)
		}
	}
	r := rand.New(rand.NewSource(2))
	for range 300 {
		l := cut(r, filled(r.Intn(600)))
		if got, want := Framed(l...), sha256.Sum256(withLengths(l...)); got != want {
			t.Fatalf("%d pieces: %x, want %x", len(l), got, want)
		}
	}
}

// P2.1: Short is the first eight bytes of Framed, the highest one first.
func TestShort(t *testing.T) {
	if got := Short(); got != 0xe3b0c44298fc1c14 {
		t.Errorf("%x", got)
	}
	for n := range 50 {
		a, b := filled(n), filled(2*n+1)
		d := sha256.Sum256(withLengths(a, b))
		if got, want := Short(a, b), binary.BigEndian.Uint64(d[:8]); got != want {
			t.Errorf("%x, want %x", got, want)
		}
	}
	if Short([]byte("ab")) == Short([]byte("a"), []byte("b")) {
		t.Error("pieces matter for Short")
	}
}

// P2.1: a stream goes on as if it hadn't been asked.
func TestStreamGoesOn(t *testing.T) {
	var s Stream
	text := filled(300)
	for n := 0; n < len(text); n++ {
		for range 2 {
			if got, want := s.Sum(), Of(text[:n]); got != want {
				t.Fatalf("after %d bytes: %x, want %x", n, got, want)
			}
		}
		if s.Len() != n {
			t.Fatalf("after %d bytes: length %d", n, s.Len())
		}
		if s.Write(text[n:n+1]) != &s {
			t.Fatal("Write answers the stream")
		}
	}
	if s.Write() != &s || s.Write(nil) != &s || s.Len() != 300 || s.Sum() != Of(text) {
		t.Error("nothing more was told")
	}
}

// P2.1: a fork was told the same, and is one of its own, both ways.
func TestFork(t *testing.T) {
	text := filled(200)
	for n := range 150 {
		var s Stream
		s.Write(text[:n])
		f := s.Fork()
		if f == &s || f.Sum() != Of(text[:n]) || f.Len() != n {
			t.Fatalf("fork after %d bytes", n)
		}
		f.Write([]byte("fork"))
		s.Write(text[n:])
		if s.Sum() != Of(text) || s.Len() != len(text) {
			t.Fatalf("%d bytes: the fork changed the stream", n)
		}
		if f.Sum() != Of(text[:n], []byte("fork")) || f.Len() != n+4 {
			t.Fatalf("%d bytes: the stream changed the fork", n)
		}
	}
}

// The zero Stream was told nothing, and may be used.
func TestZeroStream(t *testing.T) {
	var s, other Stream
	if s.Sum() != Of() || s.Len() != 0 || s.Fork().Sum() != Of() || s.Fork().Len() != 0 {
		t.Error("zero stream")
	}
	if other.Fork().Write([]byte("abc")).Sum() != Of([]byte("abc")) {
		t.Error("fork of a zero stream")
	}
	if s.Write([]byte("abc")).Sum() != Of([]byte("abc")) {
		t.Error("a zero stream that was asked")
	}
}

// P2.3: a nil stream.
func TestNilStream(t *testing.T) {
	var s *Stream
	if s.Write() != nil || s.Write([]byte("abc")) != nil {
		t.Error("Write: nil")
	}
	if s.Sum() != Of() || s.Len() != 0 {
		t.Error("Sum: that of no bytes; Len: 0")
	}
	f := s.Fork()
	if f == nil || f.Len() != 0 || f.Sum() != Of() || f.Write([]byte("abc")).Sum() != Of([]byte("abc")) {
		t.Error("Fork: one that was told nothing")
	}
	if s.Fork() == s.Fork() {
		t.Error("each fork is one of its own")
	}
}

// P2.3: bytes that are handed in are neither kept nor changed.
func TestBytesArentKept(t *testing.T) {
	for _, n := range []int{1, 63, 64, 65, 130} {
		text, same := filled(n), filled(n)
		l := [][]byte{text, text}
		var s Stream
		s.Write(l...)
		Of(l...)
		Framed(l...)
		Short(l...)
		s.Sum()
		if !bytes.Equal(text, same) || len(l) != 2 || !bytes.Equal(l[1], same) {
			t.Fatalf("%d bytes: changed what was handed in", n)
		}
		clear(text)
		l[0], l[1] = nil, nil
		if s.Sum() != Of(same, same) {
			t.Fatalf("%d bytes: kept what was handed in", n)
		}
	}
}

// P2.2: 64 signs, two for each byte, the higher four bits first.
func TestHex(t *testing.T) {
	var d [32]byte
	for i := range d {
		d[i] = byte(i*8 + i)
	}
	if got, want := Hex(d), "0009121b242d363f48515a636c757e879099a2abb4bdc6cfd8e1eaf3fc050e17"; got != want {
		t.Errorf("%s, want %s", got, want)
	}
	if Hex([32]byte{}) != strings.Repeat("0", 64) || Hex([32]byte{31: 0x1f}) != strings.Repeat("0", 62)+"1f" {
		t.Error("zeros stand, too")
	}
}

// P2.2: Unhex is Hex's way back, for every byte at every place.
func TestUnhex(t *testing.T) {
	for place := range 32 {
		for b := range 256 {
			d := Of([]byte{byte(place)})
			d[place] = byte(b)
			if got, e := Unhex(Hex(d)); got != d || e != api.OK {
				t.Fatalf("%x: %x, %d", d, got, e)
			}
		}
	}
}

// P2.2: what isn't such a text: other lengths, and other signs at any place.
func TestUnhexRefuses(t *testing.T) {
	text := Hex(Of([]byte("x")))
	wrong := []string{"", "0", text[1:], text[2:], text + "0", text + "00", text + text, " " + text[1:], strings.ToUpper(text)}
	for place := range 64 {
		for b := range 256 {
			if strings.IndexByte("0123456789abcdef", byte(b)) < 0 {
				wrong = append(wrong, text[:place]+string([]byte{byte(b)})+text[place+1:])
			}
		}
	}
	for _, s := range wrong {
		if d, e := Unhex(s); e != api.ErrForm || d != [32]byte{} {
			t.Errorf("%q: %x, %d", s, d, e)
		}
	}
}
