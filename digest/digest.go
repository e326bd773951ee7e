// Package digest is layer 1: SHA-256, and ids as text. See shared/doc/01-digest.md.
package digest

import (
	"math/bits"

	"sediment/api"
)

// blockSize is how many bytes a block has; lengthAt is where the length stands in a text's last one.
const (
	blockSize = 64
	lengthAt  = 56
)

// roundWords are the first 32 bits of what stands behind the point of the cube roots of the first 64 primes.
var roundWords = [64]uint32{
	0x428a2f98, 0x71374491, 0xb5c0fbcf, 0xe9b5dba5, 0x3956c25b, 0x59f111f1, 0x923f82a4, 0xab1c5ed5,
	0xd807aa98, 0x12835b01, 0x243185be, 0x550c7dc3, 0x72be5d74, 0x80deb1fe, 0x9bdc06a7, 0xc19bf174,
	0xe49b69c1, 0xefbe4786, 0x0fc19dc6, 0x240ca1cc, 0x2de92c6f, 0x4a7484aa, 0x5cb0a9dc, 0x76f988da,
	0x983e5152, 0xa831c66d, 0xb00327c8, 0xbf597fc7, 0xc6e00bf3, 0xd5a79147, 0x06ca6351, 0x14292967,
	0x27b70a85, 0x2e1b2138, 0x4d2c6dfc, 0x53380d13, 0x650a7354, 0x766a0abb, 0x81c2c92e, 0x92722c85,
	0xa2bfe8a1, 0xa81a664b, 0xc24b8b70, 0xc76c51a3, 0xd192e819, 0xd6990624, 0xf40e3585, 0x106aa070,
	0x19a4c116, 0x1e376c08, 0x2748774c, 0x34b0bcb5, 0x391c0cb3, 0x4ed8aa4a, 0x5b9cca4f, 0x682e6ff3,
	0x748f82ee, 0x78a5636f, 0x84c87814, 0x8cc70208, 0x90befffa, 0xa4506ceb, 0xbef9a3f7, 0xc67178f2,
}

// Hash is a digest under way. All that it has stands in it by value, so that a copy of the struct goes on by itself.
type Hash struct {
	state  [8]uint32       // means nothing while length is 0: the zero value can't have the first state
	block  [blockSize]byte // its first length%blockSize bytes wait for a whole block
	length uint64
}

// Write takes parts.
func (h *Hash) Write(parts ...string) {
	if h == nil {
		return
	}
	for _, part := range parts {
		h.take(part)
	}
}

// Len is how many bytes were taken.
func (h *Hash) Len() uint64 {
	if h == nil {
		return 0
	}
	return h.length
}

// Sum is the digest of what was taken. It ends a copy, so that the hash itself can go on.
func (h *Hash) Sum() api.Id {
	var last Hash
	if h != nil {
		last = *h
	}
	return last.end()
}

// take fills the block from s, as often as s lasts.
func (h *Hash) take(s string) {
	for len(s) > 0 {
		h.begin()
		n := copy(h.block[h.length%blockSize:], s)
		h.length += uint64(n)
		s = s[n:]
		if h.length%blockSize == 0 {
			h.state = turned(h.state, &h.block)
		}
	}
}

// begin sets the first state, once, as long as nothing was taken.
func (h *Hash) begin() {
	if h.length == 0 {
		h.state = firstState()
	}
}

// end lengthens the text to whole blocks and tells the digest; the hash can't go on behind it.
func (h *Hash) end() api.Id {
	h.begin()
	at := h.length % blockSize
	h.block[at] = 0x80
	clear(h.block[at+1:])
	if at >= lengthAt { // the length finds no room behind the mark: it stands in a block of its own
		h.state = turned(h.state, &h.block)
		clear(h.block[:])
	}
	inBits := 8 * h.length
	for i := range 8 {
		h.block[lengthAt+i] = byte(inBits >> (56 - 8*i))
	}
	return bytesOf(turned(h.state, &h.block))
}

// firstState are the first 32 bits of what stands behind the point of the square roots of the first eight primes.
func firstState() [8]uint32 {
	return [8]uint32{
		0x6a09e667, 0xbb67ae85, 0x3c6ef372, 0xa54ff53a, 0x510e527f, 0x9b05688c, 0x1f83d9ab, 0x5be0cd19,
	}
}

// turned is the state behind one more block.
func turned(state [8]uint32, block *[blockSize]byte) [8]uint32 {
	w := wordsOf(block)
	a, b, c, d, e, f, g, h := state[0], state[1], state[2], state[3], state[4], state[5], state[6], state[7]
	for i := range 64 {
		t := h + bigSigma1(e) + (e&f ^ ^e&g) + roundWords[i] + w[i]
		u := bigSigma0(a) + (a&b ^ a&c ^ b&c)
		a, b, c, d, e, f, g, h = t+u, a, b, c, d+t, e, f, g
	}
	return [8]uint32{
		state[0] + a, state[1] + b, state[2] + c, state[3] + d,
		state[4] + e, state[5] + f, state[6] + g, state[7] + h,
	}
}

// wordsOf are a block's sixteen words, and those that follow from them.
func wordsOf(block *[blockSize]byte) [64]uint32 {
	var w [64]uint32
	for i := range 16 {
		w[i] = uint32(block[4*i])<<24 | uint32(block[4*i+1])<<16 | uint32(block[4*i+2])<<8 | uint32(block[4*i+3])
	}
	for i := 16; i < 64; i++ {
		w[i] = smallSigma1(w[i-2]) + w[i-7] + smallSigma0(w[i-15]) + w[i-16]
	}
	return w
}

func smallSigma0(x uint32) uint32 {
	return turnRight(x, 7) ^ turnRight(x, 18) ^ x>>3
}

func smallSigma1(x uint32) uint32 {
	return turnRight(x, 17) ^ turnRight(x, 19) ^ x>>10
}

func bigSigma0(x uint32) uint32 {
	return turnRight(x, 2) ^ turnRight(x, 13) ^ turnRight(x, 22)
}

func bigSigma1(x uint32) uint32 {
	return turnRight(x, 6) ^ turnRight(x, 11) ^ turnRight(x, 25)
}

func turnRight(x uint32, n int) uint32 {
	return bits.RotateLeft32(x, -n)
}

// bytesOf are the bytes of a state's words, the highest of each first.
func bytesOf(state [8]uint32) api.Id {
	var id api.Id
	for i, word := range state {
		for k := range 4 {
			id[4*i+k] = byte(word >> (24 - 8*k))
		}
	}
	return id
}

// Sum is the digest of some parts.
func Sum(parts ...string) api.Id {
	var h Hash
	h.Write(parts...)
	return h.end()
}
