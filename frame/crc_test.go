package frame_test

import (
	"bytes"
	"hash/crc32"
	"math/bits"
	"math/rand"
	"testing"

	"wagonpool/frame"
)

func checkCrc(t *testing.T, b []byte, want uint32) {
	t.Helper()
	if c := frame.Crc(b); c != want {
		t.Fatalf("Crc of %x (%d bytes): %08x, want %08x", begin(b), len(b), c, want)
	}
}

// divided returns the checksum as the chapter describes it: the remainder of a division by 0x04c11db7, from which the bits of each byte and of the result are reflected.
func divided(b []byte) uint32 {
	c := uint32(0xffffffff)
	for _, x := range b {
		c ^= uint32(bits.Reverse8(x)) << 24
		for range 8 {
			top := c >> 31
			c <<= 1
			if top == 1 {
				c ^= 0x04c11db7
			}
		}
	}
	return bits.Reverse32(c) ^ 0xffffffff
}

// P10.1: checksums that the chapter and others publish.
func TestCrcPublished(t *testing.T) {
	counting := make([]byte, 32)
	for i := range counting {
		counting[i] = byte(i)
	}
	for _, c := range []struct {
		b    []byte
		want uint32
	}{
		{nil, 0},
		{[]byte{}, 0},
		{[]byte("123456789"), 0xcbf43926},
		{[]byte{0}, 0xd202ef8d},
		{[]byte{0xff}, 0xff000000},
		{[]byte("a"), 0xe8b7be43},
		{[]byte("abc"), 0x352441c2},
		{[]byte("The quick brown fox jumps over the lazy dog"), 0x414fa339},
		{make([]byte, 4), 0x2144df1c},
		{bytes.Repeat([]byte{0xff}, 4), 0xffffffff},
		{make([]byte, 32), 0x190a55ad},
		{bytes.Repeat([]byte{0xff}, 32), 0xff6cab0b},
		{counting, 0x91267e8a},
	} {
		checkCrc(t, c.b, c.want)
	}
}

// P10.1: each single byte, and each pair of bytes.
func TestCrcBytes(t *testing.T) {
	for c := range 256 {
		b := []byte{byte(c)}
		checkCrc(t, b, divided(b))
		checkCrc(t, b, crc32.ChecksumIEEE(b))
		for d := range 256 {
			b := []byte{byte(c), byte(d)}
			checkCrc(t, b, crc32.ChecksumIEEE(b))
		}
	}
}

// P10.1: each bit of a sequence.
func TestCrcBits(t *testing.T) {
	b := make([]byte, 40)
	for i := range 8 * len(b) {
		b[i/8] ^= 1 << (i % 8)
		checkCrc(t, b, divided(b))
		b[i/8] = 0
	}
}

// P10.1: long sequences, of every length up to some hundred bytes.
func TestCrcLong(t *testing.T) {
	for n := range 600 {
		checkCrc(t, pattern(n), divided(pattern(n)))
	}
	for _, n := range []int{mostContent - 1, mostContent, mostContent + 1, mostRest, 1 << 16, 1<<20 + 3} {
		checkCrc(t, pattern(n), crc32.ChecksumIEEE(pattern(n)))
		checkCrc(t, make([]byte, n), crc32.ChecksumIEEE(make([]byte, n)))
	}
	r := rand.New(rand.NewSource(1))
	for range 2000 {
		b := randomBytes(r, 500)
		checkCrc(t, b, crc32.ChecksumIEEE(b))
	}
}
