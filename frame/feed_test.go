package frame_test

import (
	"bytes"
	"math/rand"
	"slices"
	"testing"

	"wagonpool/api"
	"wagonpool/frame"
)

// P10.1: the chapter's examples.
func TestFeedExamples(t *testing.T) {
	checkFed(t, api.Deframer{}, []byte("\x7e\x7e\x00\x00\x00\x00\x7e\x7e"), waiting(), 0, nil)
	checkFed(t, api.Deframer{}, []byte("\x00\x00\x00\x00\x7e"), waiting(), 0)
	checkFed(t, api.Deframer{}, []byte("\x7e\x01\x02\x7e"), waiting(), 1)
	checkFed(t, api.Deframer{}, []byte("\x7e\x00\x00\x00\x7d\x7e"), waiting(), 1)
	checkFed(t, api.Deframer{}, []byte("\x7e\x00\x00\x00\x01\x7e"), waiting(), 1)
	checkFed(t, api.Deframer{}, []byte("\x7e\x7d\x20\x00\x00\x00\x7e"), waiting(), 0, nil)
	checkFed(t, api.Deframer{}, []byte("\x7e123456789\xcb\xf4\x39\x26\x7e"), waiting(), 0, []byte("123456789"))
}

// P10.1: what comes before the first flag, several flags in a row, and frames that share a flag.
func TestFeedFlags(t *testing.T) {
	good := []byte("\x7e123456789\xcb\xf4\x39\x26\x7e")
	content := []byte("123456789")
	for n := range 20 {
		flags := bytes.Repeat([]byte{flag}, n)
		if n > 0 {
			checkFed(t, api.Deframer{}, flags, waiting(), 0)
		}
		checkFed(t, waiting(), flags, waiting(), 0)
		checkFed(t, api.Deframer{}, slices.Concat(flags, good, flags, good, flags), waiting(), 0, content, content)
		checkFed(t, api.Deframer{}, slices.Concat([]byte("\x00\x00\x00\x00\x7d"), good, flags), waiting(), 0, content)
	}
	checkFed(t, api.Deframer{}, []byte("no flag, \x7d, \x00\x00\x00\x00"), api.Deframer{}, 0)
	checkFed(t, api.Deframer{}, slices.Concat(good, good[1:], good[1:]), waiting(), 0, content, content, content)
	checkFed(t, api.Deframer{}, slices.Concat(good, content, good, content[:1]), api.Deframer{In: true, Rest: content[:1]}, 1, content, content)
	checkFed(t, api.Deframer{}, good[1:], waiting(), 0)
	checkFed(t, waiting(), good[1:], waiting(), 0, content)
}

// P10.1: every byte without an escape and after one; an escape before a flag; an escape after an escape.
func TestFeedEscapes(t *testing.T) {
	for c := range 256 {
		if c == flag {
			continue
		}
		x := byte(c) ^ 0x20
		checkFed(t, waiting(), []byte{escape, byte(c)}, api.Deframer{In: true, Rest: []byte{x}}, 0)
		checkFed(t, api.Deframer{In: true, Escape: true, Rest: []byte{1}}, []byte{byte(c), 'a'}, api.Deframer{In: true, Rest: []byte{1, x, 'a'}}, 0)
		if c != escape {
			checkFed(t, api.Deframer{In: true, Rest: []byte{1}}, []byte{byte(c)}, api.Deframer{In: true, Rest: []byte{1, byte(c)}}, 0)
		}
		// A sender may escape each byte.
		rest := summed([]byte{x})
		stream := []byte{flag}
		for _, r := range rest {
			if r == flag^0x20 {
				stream = append(stream, r)
			} else {
				stream = append(stream, escape, r^0x20)
			}
		}
		checkFed(t, api.Deframer{}, append(stream, flag), waiting(), 0, []byte{x})
	}
	checkFed(t, waiting(), []byte{escape}, api.Deframer{In: true, Escape: true}, 0)
	checkFed(t, waiting(), []byte{escape, escape}, api.Deframer{In: true, Rest: []byte{0x5d}}, 0)
	checkFed(t, waiting(), []byte{escape, escape, escape}, api.Deframer{In: true, Rest: []byte{0x5d}, Escape: true}, 0)
	checkFed(t, waiting(), []byte{escape, flag}, waiting(), 1)
	checkFed(t, waiting(), []byte{escape, flag, escape, flag}, waiting(), 2)
	checkFed(t, waiting(), []byte{escape, flag, 0, 0, 0, 0, flag}, waiting(), 1, nil)
	checkFed(t, waiting(), []byte{0, 0, 0, 0, escape, flag}, waiting(), 1)
	checkFed(t, waiting(), []byte{0, 0, 0, 0, escape, flag, flag}, waiting(), 1)
}

// P10.1: frames that are too short, and a wrong checksum in each of its bytes.
func TestFeedDamaged(t *testing.T) {
	for n := 1; n < 4; n++ {
		checkFed(t, waiting(), append(make([]byte, n), flag), waiting(), 1)
		checkFed(t, waiting(), slices.Concat(make([]byte, n), frameOf([]byte("next"))), waiting(), 1, []byte("next"))
	}
	for _, content := range [][]byte{nil, {0}, []byte("123456789"), {flag, escape}, pattern(mostContent)} {
		for i := range 4 {
			rest := summed(content)
			for change := 1; change < 256; change++ {
				rest[len(content)+i] ^= byte(change)
				checkFed(t, api.Deframer{}, framed(rest), waiting(), 1)
				rest[len(content)+i] ^= byte(change)
			}
			checkFed(t, api.Deframer{}, framed(rest), waiting(), 0, content)
			checkFed(t, api.Deframer{}, framed(rest[:len(content)+i]), waiting(), min(len(content)+i, 1))
		}
		// The checksum with its bytes in the other order.
		if rest := summed(content); len(content) > 0 {
			slices.Reverse(rest[len(content):])
			checkFed(t, api.Deframer{}, framed(rest), waiting(), 1)
		}
	}
}

// P10.1: the longest frames, and those that are too long.
func TestFeedLong(t *testing.T) {
	next := frameOf([]byte("next"))
	for _, n := range []int{mostContent - 1, mostContent} {
		for _, content := range [][]byte{pattern(n), bytes.Repeat([]byte{flag}, n), make([]byte, n)} {
			f := frameOf(content)
			checkFed(t, api.Deframer{}, f, waiting(), 0, content)
			checkFed(t, api.Deframer{}, f[:len(f)-1], api.Deframer{In: true, Rest: summed(content)}, 0)
			checkFed(t, api.Deframer{}, slices.Concat(f, next[1:]), waiting(), 0, content, []byte("next"))
		}
	}
	tooLong := api.Deframer{In: true, Bad: true}
	for _, n := range []int{mostContent + 1, mostContent + 2, mostRest, 2 * mostRest, 2*mostRest + 1, 3*mostRest + 5} {
		for _, content := range [][]byte{pattern(n), bytes.Repeat([]byte{escape}, n), make([]byte, n)} {
			f := frameOf(content)
			checkFed(t, api.Deframer{}, f[:len(f)-1], tooLong, 0)
			checkFed(t, api.Deframer{}, f, waiting(), 1)
			checkFed(t, api.Deframer{}, slices.Concat(f, next[1:]), waiting(), 1, []byte("next"))
			checkFed(t, api.Deframer{}, slices.Concat(f, next, f, next), waiting(), 2, []byte("next"), []byte("next"))
		}
	}
	// An escape is no byte of a frame yet: the next one is one too many.
	full := append([]byte{flag}, make([]byte, mostRest)...)
	checkFed(t, api.Deframer{}, append(full, escape), api.Deframer{In: true, Escape: true, Rest: full[1:]}, 0)
	checkFed(t, api.Deframer{}, append(full, escape, escape), tooLong, 0)
	checkFed(t, api.Deframer{}, append(full, escape, 'a', escape, 'a'), tooLong, 0)
	checkFed(t, api.Deframer{}, append(full, 'a', escape), tooLong, 0)
	checkFed(t, api.Deframer{}, append(full, escape, flag, flag), waiting(), 1)
	checkFed(t, api.Deframer{}, append(full, escape, 'a', flag, flag), waiting(), 1)
}

// P10.1: contents of all kinds in frames.
func TestFeedContents(t *testing.T) {
	for _, content := range contents() {
		checkFed(t, api.Deframer{}, frameOf(content), waiting(), 0, content)
		checkFeed(t, api.Deframer{}, frameOf(content)[1:])
	}
}

// P10.1: streams of all kinds, as the second spelling reads them.
func TestFeedStreams(t *testing.T) {
	for _, d := range []api.Deframer{{}, waiting(), {In: true, Escape: true}, {In: true, Bad: true}, {Rest: []byte{0, 0, 0, 0}}} {
		for _, b := range streams() {
			checkFeed(t, d, b)
		}
		for _, b := range words(6, flag, escape, 0, 0x5e) {
			checkFeed(t, d, b)
		}
	}
	r := rand.New(rand.NewSource(21))
	for range 10000 {
		checkFeed(t, api.Deframer{}, randomBytes(r, 40))
		stream := slices.Concat(frameOf(randomBytes(r, 8)), frameOf(randomBytes(r, 8))[r.Intn(2):])
		stream[r.Intn(len(stream))] ^= byte(r.Intn(256))
		checkFeed(t, api.Deframer{}, stream)
	}
}

// P10.1: all streams of few bytes that contain the frame of no bytes, which is short enough for that.
func TestFeedShortStreams(t *testing.T) {
	found := 0
	for _, b := range words(8, flag, 0, 0x20) {
		for _, d := range []api.Deframer{{}, waiting()} {
			checkFeed(t, d, b)
			_, l, _ := frame.Feed(d, b)
			found += len(l)
		}
	}
	if found == 0 {
		t.Fatal("no stream contains a frame")
	}
}
