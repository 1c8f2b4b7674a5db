// Package digest is layer 1: SHA-256 by itself. See shared/doc/01-digest.md.
package digest

import "math/bits"

// Sizes in bytes: of what is mixed in at a time, and of the length that ends the last of it.
const (
	blockSize  = 64
	lengthSize = 8
)

// state is the sum of what was mixed in so far.
type state [8]uint32

// rounds are the first 32 bits of the fractional parts of the cube roots of the first 64 primes.
var rounds = [64]uint32{
	0x428a2f98, 0x71374491, 0xb5c0fbcf, 0xe9b5dba5, 0x3956c25b, 0x59f111f1, 0x923f82a4, 0xab1c5ed5,
	0xd807aa98, 0x12835b01, 0x243185be, 0x550c7dc3, 0x72be5d74, 0x80deb1fe, 0x9bdc06a7, 0xc19bf174,
	0xe49b69c1, 0xefbe4786, 0x0fc19dc6, 0x240ca1cc, 0x2de92c6f, 0x4a7484aa, 0x5cb0a9dc, 0x76f988da,
	0x983e5152, 0xa831c66d, 0xb00327c8, 0xbf597fc7, 0xc6e00bf3, 0xd5a79147, 0x06ca6351, 0x14292967,
	0x27b70a85, 0x2e1b2138, 0x4d2c6dfc, 0x53380d13, 0x650a7354, 0x766a0abb, 0x81c2c92e, 0x92722c85,
	0xa2bfe8a1, 0xa81a664b, 0xc24b8b70, 0xc76c51a3, 0xd192e819, 0xd6990624, 0xf40e3585, 0x106aa070,
	0x19a4c116, 0x1e376c08, 0x2748774c, 0x34b0bcb5, 0x391c0cb3, 0x4ed8aa4a, 0x5b9cca4f, 0x682e6ff3,
	0x748f82ee, 0x78a5636f, 0x84c87814, 0x8cc70208, 0x90befffa, 0xa4506ceb, 0xbef9a3f7, 0xc67178f2,
}

// Sum returns the SHA-256 digest of b, as a string of 32 bytes.
func Sum(b []byte) string {
	s := start()
	rest := b
	for len(rest) >= blockSize {
		s = mix(s, rest)
		rest = rest[blockSize:]
	}
	for end := padded(rest, len(b)); len(end) > 0; end = end[blockSize:] {
		s = mix(s, end)
	}
	return text(s)
}

// Hex returns two digits for each byte of s.
func Hex(s string) string {
	const digits = "0123456789abcdef"
	out := make([]byte, 0, 2*len(s))
	for i := range len(s) {
		out = append(out, digits[s[i]>>4], digits[s[i]&15])
	}
	return string(out)
}

// Number returns the number from 0 to n-1 with the index i that follows from seed, 0 if n is less than 1.
func Number(seed string, i, n int) int {
	if n < 1 {
		return 0
	}
	b := make([]byte, 0, len(seed)+lengthSize)
	b = append(b, seed...)
	b = appendWide(b, uint64(i))
	return int(wide(Sum(b)) % uint64(n))
}

// start is the state before anything is mixed in: the first 32 bits of the fractional parts of the square roots of the first 8 primes.
func start() state {
	return state{
		0x6a09e667, 0xbb67ae85, 0x3c6ef372, 0xa54ff53a,
		0x510e527f, 0x9b05688c, 0x1f83d9ab, 0x5be0cd19,
	}
}

// padded returns the bytes that are left over of a message of so many bytes, with the end that makes whole blocks of them. They are copied, because there may be bytes of the caller's behind them.
func padded(rest []byte, size int) []byte {
	whole := blockSize
	if len(rest)+1+lengthSize > blockSize {
		whole = 2 * blockSize
	}
	out := make([]byte, 0, whole)
	out = append(out, rest...)
	out = append(out, 0x80)
	for len(out) < whole-lengthSize {
		out = append(out, 0)
	}
	return appendWide(out, uint64(size)*8)
}

// mix returns the state with a block (the first bytes of those given) mixed in.
func mix(s state, block []byte) state {
	words := schedule(block)
	// Every digest passes here: with variables instead of an array it is several times as fast.
	a, b, c, d, e, f, g, h := s[0], s[1], s[2], s[3], s[4], s[5], s[6], s[7]
	for i := range 64 {
		choice := e&f ^ ^e&g
		majority := a&b ^ a&c ^ b&c
		low := bits.RotateLeft32(a, -2) ^ bits.RotateLeft32(a, -13) ^ bits.RotateLeft32(a, -22)
		high := bits.RotateLeft32(e, -6) ^ bits.RotateLeft32(e, -11) ^ bits.RotateLeft32(e, -25)
		v := h + high + choice + rounds[i] + words[i]
		h, g, f, e = g, f, e, d+v
		d, c, b, a = c, b, a, v+low+majority
	}
	return state{s[0] + a, s[1] + b, s[2] + c, s[3] + d, s[4] + e, s[5] + f, s[6] + g, s[7] + h}
}

// schedule returns the words of the 64 rounds that follow from a block.
func schedule(block []byte) [64]uint32 {
	var w [64]uint32
	for i := range 16 {
		w[i] = uint32(block[4*i])<<24 | uint32(block[4*i+1])<<16 | uint32(block[4*i+2])<<8 | uint32(block[4*i+3])
	}
	for i := 16; i < 64; i++ {
		x, y := w[i-15], w[i-2]
		p := bits.RotateLeft32(x, -7) ^ bits.RotateLeft32(x, -18) ^ x>>3
		q := bits.RotateLeft32(y, -17) ^ bits.RotateLeft32(y, -19) ^ y>>10
		w[i] = w[i-16] + p + w[i-7] + q
	}
	return w
}

// text returns the words of a state as bytes, the most significant byte first.
func text(s state) string {
	out := make([]byte, 0, 4*len(s))
	for i := range len(s) {
		w := s[i]
		out = append(out, byte(w>>24), byte(w>>16), byte(w>>8), byte(w))
	}
	return string(out)
}

// appendWide appends v in 8 bytes, the most significant byte first.
func appendWide(b []byte, v uint64) []byte {
	for shift := 56; shift >= 0; shift -= 8 {
		b = append(b, byte(v>>shift))
	}
	return b
}

// wide reads the first 8 bytes of a digest as a number, the most significant byte first.
func wide(s string) uint64 {
	var v uint64
	for i := range 8 {
		v = v<<8 | uint64(s[i])
	}
	return v
}
