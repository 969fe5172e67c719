package sum

import (
	"math/bits"

	"wharfinger/api"
)

const (
	blockSize  = 64
	lengthSize = 8    // the bits' number ends the last block
	endMark    = 0x80 // the bit behind the last byte
)

// firstState: of the square roots of the first 8 primes, 32 bits behind the point (FIPS 180-4, 5.3.3).
var firstState = [8]uint32{
	0x6a09e667, 0xbb67ae85, 0x3c6ef372, 0xa54ff53a, 0x510e527f, 0x9b05688c, 0x1f83d9ab, 0x5be0cd19,
}

// roundWords: of the cube roots of the first 64 primes, 32 bits behind the point (FIPS 180-4, 4.2.2).
var roundWords = [64]uint32{
	0x428a2f98, 0x71374491, 0xb5c0fbcf, 0xe9b5dba5, 0x3956c25b, 0x59f111f1, 0x923f82a4, 0xab1c5ed5,
	0xd807aa98, 0x12835b01, 0x243185be, 0x550c7dc3, 0x72be5d74, 0x80deb1fe, 0x9bdc06a7, 0xc19bf174,
	0xe49b69c1, 0xefbe4786, 0x0fc19dc6, 0x240ca1cc, 0x2de92c6f, 0x4a7484aa, 0x5cb0a9dc, 0x76f988da,
	0x983e5152, 0xa831c66d, 0xb00327c8, 0xbf597fc7, 0xc6e00bf3, 0xd5a79147, 0x06ca6351, 0x14292967,
	0x27b70a85, 0x2e1b2138, 0x4d2c6dfc, 0x53380d13, 0x650a7354, 0x766a0abb, 0x81c2c92e, 0x92722c85,
	0xa2bfe8a1, 0xa81a664b, 0xc24b8b70, 0xc76c51a3, 0xd192e819, 0xd6990624, 0xf40e3585, 0x106aa070,
	0x19a4c116, 0x1e376c08, 0x2748774c, 0x34b0bcb5, 0x391c0cb3, 0x4ed8aa4a, 0x5b9cca4f, 0x682e6ff3,
	0x748f82ee, 0x78a5636f, 0x84c87814, 0x8cc70208, 0x90befffa, 0xa4506ceb, 0xbef9a3f7, 0xc67178f2,
}

// hasher takes bytes piece by piece, so that parts need not be laid together first.
type hasher struct {
	state  [8]uint32
	block  [blockSize]byte
	used   int // how much of the block is filled: never all of it between two calls
	length uint64
}

func newHasher() hasher {
	return hasher{state: firstState}
}

// write takes bytes, and mixes in each block that they fill.
func (h *hasher) write(b []byte) {
	h.length += uint64(len(b))
	for len(b) > 0 {
		n := copy(h.block[h.used:], b)
		b = b[n:]
		h.used += n
		if h.used == blockSize {
			h.mix()
			h.used = 0
		}
	}
}

// finish: the sum of all that was written. The hasher is used up by it.
func (h *hasher) finish() api.Sum {
	length := h.length * 8
	var pad [2 * blockSize]byte
	n := blockSize - h.used
	if n < 1+lengthSize { // no room left for the mark and the length: a block more
		n += blockSize
	}
	pad[0] = endMark
	for i := range lengthSize {
		pad[n-1-i] = byte(length >> (8 * i))
	}
	h.write(pad[:n])
	var s api.Sum
	for i, word := range h.state {
		b := bytesOf(word)
		copy(s[4*i:], b[:])
	}
	return s
}

// mix works the block into the state (FIPS 180-4, 6.2.2). The letters are the standard's; its h is last here, since h is the hasher.
func (h *hasher) mix() {
	words := schedule(h.block)
	a, b, c, d := h.state[0], h.state[1], h.state[2], h.state[3]
	e, f, g, last := h.state[4], h.state[5], h.state[6], h.state[7]
	for i, word := range words {
		one := last + bigOne(e) + choose(e, f, g) + roundWords[i] + word
		two := bigNought(a) + most(a, b, c)
		a, b, c, d, e, f, g, last = one+two, a, b, c, d+one, e, f, g
	}
	for i, x := range [8]uint32{a, b, c, d, e, f, g, last} {
		h.state[i] += x
	}
}

// schedule: a block's 16 words, and the 48 that follow from them.
func schedule(block [blockSize]byte) [64]uint32 {
	var w [64]uint32
	for i := range 16 {
		w[i] = wordOf(block[4*i : 4*i+4])
	}
	for i := 16; i < 64; i++ {
		w[i] = smallOne(w[i-2]) + w[i-7] + smallNought(w[i-15]) + w[i-16]
	}
	return w
}

// wordOf: four bytes as a word, the highest first.
func wordOf(b []byte) uint32 {
	return uint32(b[0])<<24 | uint32(b[1])<<16 | uint32(b[2])<<8 | uint32(b[3])
}

// bytesOf: a word as four bytes, the highest first.
func bytesOf(x uint32) [4]byte {
	return [4]byte{byte(x >> 24), byte(x >> 16), byte(x >> 8), byte(x)}
}

// The six functions of FIPS 180-4, 4.1.2.

func choose(x, y, z uint32) uint32 { return x&y ^ ^x&z }

func most(x, y, z uint32) uint32 { return x&y ^ x&z ^ y&z }

func bigNought(x uint32) uint32 { return turned(x, 2) ^ turned(x, 13) ^ turned(x, 22) }

func bigOne(x uint32) uint32 { return turned(x, 6) ^ turned(x, 11) ^ turned(x, 25) }

func smallNought(x uint32) uint32 { return turned(x, 7) ^ turned(x, 18) ^ x>>3 }

func smallOne(x uint32) uint32 { return turned(x, 17) ^ turned(x, 19) ^ x>>10 }

// turned: the bits turned to the right.
func turned(x uint32, n int) uint32 { return bits.RotateLeft32(x, -n) }
