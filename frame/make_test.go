package frame_test

import (
	"bytes"
	"encoding/binary"
	"hash/crc32"
	"math/rand"
	"slices"
	"testing"

	"wagonpool/api"
	"wagonpool/frame"
)

// P10.1: the chapter's examples, and frames that are spelled out.
func TestMakeExamples(t *testing.T) {
	for _, c := range []struct{ content, want string }{
		{"", "\x7e\x00\x00\x00\x00\x7e"},
		{"123456789", "\x7e123456789\xcb\xf4\x39\x26\x7e"},
		{"a", "\x7ea\xe8\xb7\xbe\x43\x7e"},
		{"\x7e", "\x7e\x7d\x5e\x65\xbf\xb3\xb6\x7e"},
		{"\x7d", "\x7e\x7d\x5d\xfc\xb6\xe2\x0c\x7e"},
		{"\x7d\x5e", "\x7e\x7d\x5d\x5e\x57\x9b\x69\xb7\x7e"},
		{"\x7e\x7d", "\x7e\x7d\x5e\x7d\x5d\xde\xd1\x4b\x06\x7e"},
		// Only the checksum needs an escape, in its first or in its last byte.
		{"\x2b", "\x7e\x2b\x7d\x5e\xbe\x16\xcd\x7e"},
		{"\x5e", "\x7e\x5e\x5e\xd1\x93\x7d\x5e\x7e"},
		{"\xa9", "\x7e\xa9\x7d\x5d\x08\xf4\xc1\x7e"},
		{"\xeb", "\x7e\xeb\xe5\xda\xd4\x7d\x5d\x7e"},
	} {
		checkMake(t, []byte(c.content), []byte(c.want))
	}
	checkMake(t, nil, []byte{flag, 0, 0, 0, 0, flag})
}

// P10.1: contents of all kinds.
func TestMakeContents(t *testing.T) {
	for _, content := range contents() {
		checkMake(t, content, frameOf(content))
	}
	r := rand.New(rand.NewSource(11))
	for range 5000 {
		content := randomBytes(r, 60)
		checkMake(t, content, frameOf(content))
	}
	for _, content := range words(5, flag, escape, 0x5e, 0) {
		checkMake(t, content, frameOf(content))
	}
}

// P10.1: a checksum needs escapes also if its content needs none.
func TestMakeChecksums(t *testing.T) {
	for _, sum := range words(4, flag, escape, 0x5e, 0) {
		if len(sum) < 4 {
			continue
		}
		content := contentWith(t, binary.BigEndian.Uint32(sum))
		if !bytes.Equal(summed(content)[5:], sum) {
			t.Fatalf("%x has the checksum %08x", content, crc32.ChecksumIEEE(content))
		}
		checkMake(t, content, slices.Concat([]byte{flag}, content, escaped(sum), []byte{flag}))
		checkFed(t, api.Deframer{}, made(t, content), waiting(), 0, content)
	}
	content := contentWith(t, 0x7e7d7e7d)
	checkMake(t, content, slices.Concat([]byte{flag}, content, []byte("\x7d\x5e\x7d\x5d\x7d\x5e\x7d\x5d\x7e")))
}

// P10.1: the greatest contents, and those that are too long.
func TestMakeLimit(t *testing.T) {
	for _, c := range []byte{flag, escape} {
		content := bytes.Repeat([]byte{c}, mostContent)
		f := made(t, content)
		sum := escaped(summed(content)[mostContent:])
		want := slices.Concat([]byte{flag}, bytes.Repeat([]byte{escape, c ^ 0x20}, mostContent), sum, []byte{flag})
		if !bytes.Equal(f, want) {
			t.Errorf("the greatest content of %02x alone: %x (%d bytes)", c, begin(f), len(f))
		}
	}
	for _, n := range []int{mostContent + 1, mostContent + 2, mostRest, mostRest + 1, 2 * mostContent, 1 << 16, 1 << 20} {
		for _, content := range [][]byte{make([]byte, n), pattern(n), bytes.Repeat([]byte{flag}, n)} {
			if f, e := frame.Make(content); e != api.ErrLimit || len(f) != 0 {
				t.Errorf("Make of %d bytes: %x (%d bytes), %v", n, begin(f), len(f), e)
			}
		}
	}
}

// checkTransparent checks what P10.5 says of the frame of a content.
func checkTransparent(t *testing.T, content []byte) {
	t.Helper()
	f := made(t, content)
	if f[0] != flag || f[len(f)-1] != flag || bytes.Count(f, []byte{flag}) != 2 {
		t.Fatalf("Make of %x (%d bytes): %x (%d bytes) has other flags", begin(content), len(content), begin(f), len(f))
	}
	if n := len(f) - 2; n < len(content)+4 || n > 2*(len(content)+4) {
		t.Fatalf("Make of %x (%d bytes): %d bytes between the flags", begin(content), len(content), n)
	}
}

// P10.5: contents of all kinds, and checksums of flags and escapes alone.
func TestTransparency(t *testing.T) {
	for _, content := range contents() {
		checkTransparent(t, content)
	}
	for _, content := range words(5, flag, escape, 0x5d, 1) {
		checkTransparent(t, content)
	}
	r := rand.New(rand.NewSource(12))
	for range 5000 {
		checkTransparent(t, randomBytes(r, 60))
	}
	for _, sum := range words(4, flag, escape) {
		if len(sum) == 4 {
			checkTransparent(t, contentWith(t, binary.BigEndian.Uint32(sum)))
		}
	}
}
