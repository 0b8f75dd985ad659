package digest

import "math/bits"

// block is how many bytes turn the words at once.
const block = 64

// steps is how many steps a block is turned by.
const steps = 64

// words are the eight that blocks turn, and that are the digest in the end.
type words [8]uint32

// roots are the first 32 bits behind the point of the cube roots of the first
// 64 primes: each step's constant.
var roots = [steps]uint32{
	0x428a2f98, 0x71374491, 0xb5c0fbcf, 0xe9b5dba5, 0x3956c25b, 0x59f111f1, 0x923f82a4, 0xab1c5ed5,
	0xd807aa98, 0x12835b01, 0x243185be, 0x550c7dc3, 0x72be5d74, 0x80deb1fe, 0x9bdc06a7, 0xc19bf174,
	0xe49b69c1, 0xefbe4786, 0x0fc19dc6, 0x240ca1cc, 0x2de92c6f, 0x4a7484aa, 0x5cb0a9dc, 0x76f988da,
	0x983e5152, 0xa831c66d, 0xb00327c8, 0xbf597fc7, 0xc6e00bf3, 0xd5a79147, 0x06ca6351, 0x14292967,
	0x27b70a85, 0x2e1b2138, 0x4d2c6dfc, 0x53380d13, 0x650a7354, 0x766a0abb, 0x81c2c92e, 0x92722c85,
	0xa2bfe8a1, 0xa81a664b, 0xc24b8b70, 0xc76c51a3, 0xd192e819, 0xd6990624, 0xf40e3585, 0x106aa070,
	0x19a4c116, 0x1e376c08, 0x2748774c, 0x34b0bcb5, 0x391c0cb3, 0x4ed8aa4a, 0x5b9cca4f, 0x682e6ff3,
	0x748f82ee, 0x78a5636f, 0x84c87814, 0x8cc70208, 0x90befffa, 0xa4506ceb, 0xbef9a3f7, 0xc67178f2,
}

// begin sets the words to the first 32 bits behind the point of the square
// roots of the first eight primes.
func (w *words) begin() {
	*w = words{
		0x6a09e667, 0xbb67ae85, 0x3c6ef372, 0xa54ff53a,
		0x510e527f, 0x9b05688c, 0x1f83d9ab, 0x5be0cd19,
	}
}

// turn brings a block into the words, by its steps.
func (w *words) turn(text []byte) {
	added := spread(text)
	a, b, c, d, e, f, g, h := w[0], w[1], w[2], w[3], w[4], w[5], w[6], w[7]
	for i := range steps {
		first := h + around(e, 6, 11, 25) + chosen(e, f, g) + roots[i] + added[i]
		second := around(a, 2, 13, 22) + most(a, b, c)
		a, b, c, d, e, f, g, h = first+second, a, b, c, d+first, e, f, g
	}
	for i, n := range [8]uint32{a, b, c, d, e, f, g, h} {
		w[i] += n
	}
}

// bytes are the words' own, each with its highest first.
func (w *words) bytes() [size]byte {
	var d [size]byte
	for i, n := range w {
		d[4*i], d[4*i+1], d[4*i+2], d[4*i+3] = byte(n>>24), byte(n>>16), byte(n>>8), byte(n)
	}
	return d
}

// spread is a block as one number for each step: its sixteen own ones, then
// each made of those ahead of it.
func spread(text []byte) [steps]uint32 {
	var l [steps]uint32
	for i := range 16 {
		l[i] = uint32(text[4*i])<<24 | uint32(text[4*i+1])<<16 | uint32(text[4*i+2])<<8 | uint32(text[4*i+3])
	}
	for i := 16; i < steps; i++ {
		far, near := l[i-15], l[i-2]
		far = bits.RotateLeft32(far, -7) ^ bits.RotateLeft32(far, -18) ^ far>>3
		near = bits.RotateLeft32(near, -17) ^ bits.RotateLeft32(near, -19) ^ near>>10
		l[i] = l[i-16] + far + l[i-7] + near
	}
	return l
}

// around is a number turned to the right by three counts, all three held
// together.
func around(n uint32, one, two, three int) uint32 {
	return bits.RotateLeft32(n, -one) ^ bits.RotateLeft32(n, -two) ^ bits.RotateLeft32(n, -three)
}

// chosen has each bit of yes where that of by is set, and of no elsewhere.
func chosen(by, yes, no uint32) uint32 { return by&yes ^ ^by&no }

// most has each bit that at least two of the three have.
func most(a, b, c uint32) uint32 { return a&b ^ a&c ^ b&c }
