package digest

import (
	"math/bits"

	"wagonpool/api"
)

const (
	blockSize = 64 // bytes of a block
	rounds    = 64 // of a block
	wordSize  = 4  // bytes of a word
)

// roundConstants are the first 32 bits of the fractional parts of the cube roots of the first 64 primes.
var roundConstants = [rounds]uint32{
	0x428a2f98, 0x71374491, 0xb5c0fbcf, 0xe9b5dba5, 0x3956c25b, 0x59f111f1, 0x923f82a4, 0xab1c5ed5,
	0xd807aa98, 0x12835b01, 0x243185be, 0x550c7dc3, 0x72be5d74, 0x80deb1fe, 0x9bdc06a7, 0xc19bf174,
	0xe49b69c1, 0xefbe4786, 0x0fc19dc6, 0x240ca1cc, 0x2de92c6f, 0x4a7484aa, 0x5cb0a9dc, 0x76f988da,
	0x983e5152, 0xa831c66d, 0xb00327c8, 0xbf597fc7, 0xc6e00bf3, 0xd5a79147, 0x06ca6351, 0x14292967,
	0x27b70a85, 0x2e1b2138, 0x4d2c6dfc, 0x53380d13, 0x650a7354, 0x766a0abb, 0x81c2c92e, 0x92722c85,
	0xa2bfe8a1, 0xa81a664b, 0xc24b8b70, 0xc76c51a3, 0xd192e819, 0xd6990624, 0xf40e3585, 0x106aa070,
	0x19a4c116, 0x1e376c08, 0x2748774c, 0x34b0bcb5, 0x391c0cb3, 0x4ed8aa4a, 0x5b9cca4f, 0x682e6ff3,
	0x748f82ee, 0x78a5636f, 0x84c87814, 0x8cc70208, 0x90befffa, 0xa4506ceb, 0xbef9a3f7, 0xc67178f2,
}

// state contains the words h0 to h7.
type state [8]uint32

// initial returns the state before the first block.
func initial() state {
	return state{0x6a09e667, 0xbb67ae85, 0x3c6ef372, 0xa54ff53a, 0x510e527f, 0x9b05688c, 0x1f83d9ab, 0x5be0cd19}
}

// lastBlocks returns the blocks that end a message of size bytes: rest, which is what its whole blocks leave, and the padding.
func lastBlocks(rest []byte, size int) []byte {
	messageBits := uint64(size) * 8
	var length [8]byte
	for i := range length {
		length[i] = byte(messageBits >> (56 - 8*i))
	}
	// One byte marks the end of the message and eight contain its length; if they do not fit the block of rest, zeros fill it and most of another one.
	var zeros [blockSize]byte
	fill := (2*blockSize - 1 - len(length) - len(rest)) % blockSize
	return join(rest, []byte{0x80}, zeros[:fill], length[:])
}

// afterBlocks returns the state after the blocks of b.
func (s state) afterBlocks(b []byte) state {
	for i := range len(b) / blockSize {
		s = s.afterBlock(b[i*blockSize : (i+1)*blockSize])
	}
	return s
}

// afterBlock returns the state after one block.
func (s state) afterBlock(block []byte) state {
	w := schedule(block)
	a, b, c, d, e, f, g, h := s[0], s[1], s[2], s[3], s[4], s[5], s[6], s[7]
	for i := range rounds {
		t1 := h + (rotr(e, 6) ^ rotr(e, 11) ^ rotr(e, 25)) + ((e & f) ^ (^e & g)) + roundConstants[i] + w[i]
		t2 := (rotr(a, 2) ^ rotr(a, 13) ^ rotr(a, 22)) + ((a & b) ^ (a & c) ^ (b & c))
		h, g, f, e, d, c, b, a = g, f, e, d+t1, c, b, a, t1+t2
	}
	return state{s[0] + a, s[1] + b, s[2] + c, s[3] + d, s[4] + e, s[5] + f, s[6] + g, s[7] + h}
}

// schedule returns the words that the rounds of a block add.
func schedule(block []byte) (w [rounds]uint32) {
	words := blockSize / wordSize
	for i := range words {
		for j := range wordSize {
			w[i] = w[i]<<8 | uint32(block[wordSize*i+j])
		}
	}
	for i := words; i < rounds; i++ {
		x, y := w[i-15], w[i-2]
		s0 := rotr(x, 7) ^ rotr(x, 18) ^ x>>3
		s1 := rotr(y, 17) ^ rotr(y, 19) ^ y>>10
		w[i] = w[i-16] + s0 + w[i-7] + s1
	}
	return w
}

// rotr returns x rotated to the right by n bits.
func rotr(x uint32, n int) uint32 {
	return bits.RotateLeft32(x, -n)
}

// digest returns the bytes of the words of s, most significant first.
func (s state) digest() (d api.Digest) {
	for i := range d {
		d[i] = byte(s[i/wordSize] >> (8 * (wordSize - 1 - i%wordSize)))
	}
	return d
}
