package digest

// Stream is told bytes, and answers their digest. The zero Stream was told
// nothing. It holds arrays only, so that a copy of one is one of its own.
type Stream struct {
	words
	rest   [block]byte // of the last block, as long as it isn't full
	length int
}

// Write tells the stream bytes more.
func (s *Stream) Write(l ...[]byte) *Stream {
	if s == nil {
		return nil
	}
	for _, text := range l {
		s.tell(text)
	}
	return s
}

// Sum answers the digest of all bytes so far.
func (s *Stream) Sum() [32]byte {
	// The end is told to another one, since this one may go on.
	ended := s.Fork()
	ended.tell(ending(ended.length))
	return ended.bytes()
}

// Len tells how many bytes the stream was told.
func (s *Stream) Len() int {
	if s == nil {
		return 0
	}
	return s.length
}

// Fork answers a stream of its own that was told the same.
func (s *Stream) Fork() *Stream {
	if s == nil {
		return &Stream{}
	}
	other := *s
	return &other
}

// tell turns the words by each block that is full now, and keeps the rest.
func (s *Stream) tell(text []byte) {
	if s.length == 0 {
		// The zero Stream's words have not begun yet.
		s.begin()
	}
	over := s.length % block
	s.length += len(text)
	if over > 0 {
		taken := copy(s.rest[over:], text)
		if over+taken < block {
			return
		}
		s.turn(s.rest[:])
		text = text[taken:]
	}
	for len(text) >= block {
		s.turn(text[:block])
		text = text[block:]
	}
	copy(s.rest[:], text)
}

// ending is what comes behind so many bytes, to the end of a block: a byte
// 128, bytes 0, and how many bits there were.
func ending(length int) []byte {
	const count = 8
	zeros := (2*block - count - 1 - length%block) % block
	end := make([]byte, 1+zeros, 1+zeros+count)
	end[0] = 128
	bits := uint64(length) * 8
	for shift := 56; shift >= 0; shift -= 8 {
		end = append(end, byte(bits>>shift))
	}
	return end
}
