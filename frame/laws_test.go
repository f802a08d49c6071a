package frame_test

import (
	"bytes"
	"math/rand"
	"slices"
	"testing"

	"wagonpool/api"
	"wagonpool/frame"
)

// checkRound checks that a new receiver receives these contents, from separate frames and from frames that share their flags.
func checkRound(t *testing.T, contents ...[]byte) {
	t.Helper()
	var separate, shared []byte
	for i, content := range contents {
		f := made(t, content)
		separate = append(separate, f...)
		shared = append(shared, f[min(i, 1):]...)
	}
	want := waiting()
	if len(contents) == 0 {
		want = api.Deframer{}
	}
	checkFed(t, api.Deframer{}, separate, want, 0, contents...)
	checkFed(t, api.Deframer{}, shared, want, 0, contents...)
}

// P10.2: each content alone, twice, and all of them one after the other.
func TestRoundTrip(t *testing.T) {
	checkRound(t)
	for _, content := range contents() {
		checkRound(t, content)
		checkRound(t, content, content)
		checkRound(t, nil, content, nil)
	}
	checkRound(t, contents()...)
	for _, content := range words(5, flag, escape, 0x5e, 0x5d) {
		checkRound(t, content, []byte{escape}, content)
	}
}

// P10.2: random contents.
func TestRoundTripRandom(t *testing.T) {
	r := rand.New(rand.NewSource(41))
	for range 2000 {
		var l [][]byte
		for range r.Intn(8) {
			l = append(l, randomBytes(r, 60))
		}
		checkRound(t, l...)
	}
}

// checkResynchronized checks that a frame is received after any bytes, in addition to what its first flag ends.
func checkResynchronized(t *testing.T, d api.Deframer, before, content []byte) {
	t.Helper()
	_, l, bad := frame.Feed(d, slices.Concat(before, []byte{flag}))
	checkFed(t, d, slices.Concat(before, made(t, content)), waiting(), bad, append(slices.Clone(l), content)...)
}

// P10.4: all states, and short sequences of bytes before a frame.
func TestResynchronization(t *testing.T) {
	for _, d := range states() {
		n := 4
		if len(d.Rest) > 1000 {
			n = 2
		}
		for _, before := range words(n, flag, escape, 0, 'a') {
			checkResynchronized(t, d, before, []byte("received"))
			checkResynchronized(t, d, before, nil)
		}
		for _, before := range streams() {
			checkResynchronized(t, d, before, []byte{flag, escape})
		}
	}
}

// P10.4: contents of all kinds after a damaged frame, after one that is too long, and after an escape.
func TestResynchronizationContents(t *testing.T) {
	for _, content := range contents() {
		for _, before := range [][]byte{nil, {escape}, {flag}, {flag, escape}, []byte("\x7edamaged\x7e"), []byte("\x7edamaged"), frameOf(pattern(mostContent + 1)), pattern(2 * mostRest), frameOf([]byte("good"))} {
			checkResynchronized(t, api.Deframer{}, before, content)
			checkResynchronized(t, waiting(), before, content)
		}
	}
}

// P10.4: a frame of which bytes are lost or changed, or to which bytes are added, is followed by one that is received.
func TestResynchronizationDamage(t *testing.T) {
	f := made(t, []byte("a\x7eb\x7dc"))
	for i := range f {
		for c := range 256 {
			changed := slices.Clone(f)
			changed[i] = byte(c)
			checkResynchronized(t, api.Deframer{}, changed, []byte("received"))
			checkResynchronized(t, api.Deframer{}, slices.Insert(slices.Clone(f), i, byte(c)), []byte("received"))
		}
		for j := i; j <= len(f); j++ {
			checkResynchronized(t, api.Deframer{}, slices.Delete(slices.Clone(f), i, j), []byte("received"))
		}
	}
}

// checkDetected checks that a change at an index of a content changes its checksum, and that the old checksum does not fit any more.
func checkDetected(t *testing.T, content []byte, at int, change ...byte) {
	t.Helper()
	changed := slices.Clone(content)
	for i, c := range change {
		changed[at+i] ^= c
	}
	if bytes.Equal(changed, content) {
		return
	}
	if c := frame.Crc(content); c == frame.Crc(changed) {
		t.Fatalf("%x (%d bytes) with the change %x at %d still has the checksum %08x", begin(content), len(content), change, at, c)
	}
	rest := slices.Concat(changed, summed(content)[len(content):])
	checkFed(t, api.Deframer{}, framed(rest), waiting(), 1)
	checkFed(t, api.Deframer{In: true, Rest: rest}, []byte{flag}, waiting(), 1)
}

// P10.6: all changes of one byte, and of the first and the last bit of a sequence of up to four bytes, at each index of some contents.
func TestDetection(t *testing.T) {
	for _, content := range [][]byte{{0}, {flag}, []byte("123456789"), make([]byte, 20), pattern(40)} {
		for at := range content {
			for c := range 256 {
				checkDetected(t, content, at, byte(c))
			}
			for first := range 8 {
				for last := range 8 {
					for n := 2; n <= 4 && at+n <= len(content); n++ {
						change := make([]byte, n)
						change[0], change[n-1] = 1<<first, 1<<last
						checkDetected(t, content, at, change...)
					}
				}
			}
		}
	}
}

// P10.6: all changes of two bytes to flags and escapes, or from them.
func TestDetectionFlags(t *testing.T) {
	letters := []byte{flag, escape, 0x5e, 0x5d}
	for _, content := range words(4, letters...) {
		for _, other := range words(4, letters...) {
			if len(other) != len(content) {
				continue
			}
			change := slices.Clone(other)
			for i := range change {
				change[i] ^= content[i]
			}
			checkDetected(t, slices.Concat([]byte("1"), content, []byte("2")), 1, change...)
		}
	}
}

// P10.6: random changes of up to four bytes, in contents of all lengths.
func TestDetectionRandom(t *testing.T) {
	r := rand.New(rand.NewSource(42))
	for range 20000 {
		content := randomBytes(r, 60)
		if r.Intn(500) == 0 {
			content = pattern(mostContent)
		}
		n := min(r.Intn(4)+1, len(content))
		change := make([]byte, n)
		r.Read(change)
		checkDetected(t, content, r.Intn(len(content)-n+1), change...)
	}
	// The polynomial itself would not be detected: it has 33 bits, so it never fits four bytes.
	content := make([]byte, 16)
	polynomial := []byte{0x41, 0x06, 0x71, 0xdb, 0x01}
	for i, c := range polynomial {
		content[5+i] ^= c
	}
	if frame.Crc(content) != frame.Crc(make([]byte, 16)) {
		t.Error("a change by the polynomial is detected, but the remainder of its division is zero")
	}
}
