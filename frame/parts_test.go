package frame_test

import (
	"bytes"
	"math/rand"
	"slices"
	"testing"

	"wagonpool/api"
	"wagonpool/frame"
)

// checkParts checks that parts of a stream, fed one after the other, have the same effect as the stream at once.
func checkParts(t *testing.T, d api.Deframer, parts ...[]byte) {
	t.Helper()
	stream := slices.Concat(parts...)
	want, contents, wantBad := frame.Feed(d, stream)
	x, all, sum := d, [][]byte(nil), 0
	for _, part := range parts {
		next, l, bad := frame.Feed(x, part)
		x, all, sum = next, append(all, l...), sum+bad
	}
	checkResult(t, d, stream, x, want, all, contents, sum, wantBad)
}

// P10.3: every division of a stream into two parts, with and without empty parts.
func TestTwoParts(t *testing.T) {
	for _, b := range streams() {
		for _, d := range []api.Deframer{{}, waiting(), {In: true, Rest: []byte("12"), Escape: true}, {In: true, Bad: true}} {
			step := 1 + len(b)/2000*7
			for i := 0; i <= len(b); i += step {
				checkParts(t, d, b[:i], b[i:])
			}
			checkParts(t, d, nil, b, nil)
			checkParts(t, d, nil, b[:len(b)/2], nil, []byte{}, b[len(b)/2:], nil)
		}
	}
}

// P10.3: every division of a stream with the longest frame and one that is too long, where their lengths matter.
func TestTwoPartsLong(t *testing.T) {
	for _, n := range []int{mostContent - 1, mostContent, mostContent + 1} {
		b := slices.Concat(frameOf(bytes.Repeat([]byte{'a'}, n)), frameOf([]byte("next")))
		for i := mostRest - 10; i <= len(b); i++ {
			checkParts(t, api.Deframer{}, b[:i], b[i:])
		}
	}
}

// P10.3: byte by byte.
func TestSingleBytes(t *testing.T) {
	divided := func(b []byte) (l [][]byte) {
		for i := range b {
			l = append(l, b[i:i+1])
		}
		return l
	}
	for _, b := range streams() {
		checkParts(t, api.Deframer{}, divided(b)...)
	}
	for _, d := range states() {
		checkParts(t, d, divided([]byte("a\x7d\x5e\x7e\x7e\x7d\x7d\x7d\x7e123\x7e\x00\x00\x00\x7d\x20\x7e\x00\x00\x00\x00\x7e\x7d"))...)
	}
}

// P10.3: every division of short streams into three parts, in all states.
func TestThreeParts(t *testing.T) {
	for _, d := range states() {
		for _, b := range [][]byte{[]byte("a\x7d\x5e\x7e"), []byte("\x7d\x7e\x00\x00\x00\x00\x7e"), []byte("\x7d\x7d\x7e\x7e1"), []byte("\x00\x00\x00\x00\x7d")} {
			for i := range len(b) + 1 {
				for j := i; j <= len(b); j++ {
					checkParts(t, d, b[:i], b[i:j], b[j:])
				}
			}
		}
	}
}

// P10.3: random divisions of random streams.
func TestRandomParts(t *testing.T) {
	r := rand.New(rand.NewSource(31))
	for range 3000 {
		b := slices.Concat(randomBytes(r, 10), frameOf(randomBytes(r, 10)), randomBytes(r, 10), frameOf(randomBytes(r, 10)), randomBytes(r, 10))
		var parts [][]byte
		for len(b) > 0 {
			n := r.Intn(min(len(b), 12) + 1)
			parts = append(parts, b[:n])
			b = b[n:]
		}
		checkParts(t, api.Deframer{In: r.Intn(2) == 0, Rest: randomBytes(r, 5), Escape: r.Intn(2) == 0, Bad: r.Intn(4) == 0}, parts...)
	}
}
