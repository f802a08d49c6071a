package frame_test

import (
	"bytes"
	"encoding/binary"
	"hash/crc32"
	"math/rand"
	"slices"
	"testing"

	"wagonpool/api"
	"wagonpool/frame"
)

// This file spells the chapter out a second time, and contains the samples of the tests. The second spelling divides a stream at its flags, instead of looking at each byte.

const (
	flag        = 0x7e
	escape      = 0x7d
	mostContent = 8192
	mostRest    = 8196
)

// waiting returns the state in which a frame has begun and has no bytes yet.
func waiting() api.Deframer { return api.Deframer{In: true} }

// summed returns b and its checksum.
func summed(b []byte) []byte {
	return binary.BigEndian.AppendUint32(slices.Clone(b), crc32.ChecksumIEEE(b))
}

// escaped returns b with its escapes.
func escaped(b []byte) []byte {
	b = bytes.ReplaceAll(b, []byte{escape}, []byte{escape, 0x5d})
	return bytes.ReplaceAll(b, []byte{flag}, []byte{escape, 0x5e})
}

// framed returns the frame that has these bytes instead of a content and its checksum.
func framed(rest []byte) []byte {
	return slices.Concat([]byte{flag}, escaped(rest), []byte{flag})
}

// frameOf returns the frame of a content of any length.
func frameOf(content []byte) []byte { return framed(summed(content)) }

// resolved returns what bytes without flags stand for, and whether an escape is their last byte.
func resolved(b []byte) (rest []byte, open bool) {
	for len(b) > 0 {
		before, after, found := bytes.Cut(b, []byte{escape})
		rest = append(rest, before...)
		if found && len(after) == 0 {
			return rest, true
		}
		if found {
			rest = append(rest, after[0]^0x20)
			after = after[1:]
		}
		b = after
	}
	return rest, false
}

// afterBytes returns the state after bytes without flags.
func afterBytes(d api.Deframer, b []byte) api.Deframer {
	if !d.In || d.Bad || len(b) == 0 {
		return d
	}
	if d.Escape {
		b = slices.Concat([]byte{escape}, b)
	}
	rest, open := resolved(b)
	if len(rest) > 0 && len(d.Rest)+len(rest) > mostRest {
		return api.Deframer{In: true, Bad: true}
	}
	return api.Deframer{In: true, Rest: slices.Concat(d.Rest, rest), Escape: open}
}

// fed returns what Feed returns.
func fed(d api.Deframer, b []byte) (x api.Deframer, l [][]byte, bad int) {
	for i, part := range bytes.Split(b, []byte{flag}) {
		if i > 0 {
			empty := len(d.Rest) == 0 && !d.Escape && !d.Bad
			n := len(d.Rest) - 4
			good := !d.Escape && !d.Bad && n >= 0 && n <= mostContent && bytes.Equal(summed(d.Rest[:n]), d.Rest)
			if d.In && good {
				l = append(l, d.Rest[:n])
			} else if d.In && !empty {
				bad++
			}
			d = waiting()
		}
		d = afterBytes(d, part)
	}
	return d, l, bad
}

// pattern returns n bytes in which each value occurs, flags and escapes among them.
func pattern(n int) []byte {
	b := make([]byte, n)
	for i := range b {
		b[i] = byte(i*7 + i>>8*31)
	}
	return b
}

// randomBytes returns up to n bytes, of which many are flags and escapes or what follows an escape.
func randomBytes(r *rand.Rand, n int) []byte {
	b := make([]byte, r.Intn(n+1))
	r.Read(b)
	for i := range b {
		if r.Intn(2) == 0 {
			b[i] = []byte{flag, escape, 0x5e, 0x5d, 0, 0x20}[r.Intn(6)]
		}
	}
	return b
}

// contentWith returns a content without flags and escapes that has this checksum.
func contentWith(t *testing.T, sum uint32) []byte {
	t.Helper()
	for first := range 256 {
		content := []byte{byte(first), 0, 0, 0, 0}
		solve(content, sum)
		if crc32.ChecksumIEEE(content) == sum && !bytes.ContainsAny(content, "\x7d\x7e") {
			return content
		}
	}
	t.Fatalf("no content of five bytes has the checksum %08x", sum)
	return nil
}

// solve changes the last four bytes of content so that its checksum becomes sum: the change of a checksum is a linear function of the change of the bytes, so the bits of the difference are removed one by one.
func solve(content []byte, sum uint32) {
	type change struct{ bits, effect uint32 }
	var known []change
	reduced := func(c change) change {
		for _, k := range known {
			if c.effect^k.effect < c.effect {
				c = change{c.bits ^ k.bits, c.effect ^ k.effect}
			}
		}
		return c
	}
	zero := crc32.ChecksumIEEE(content)
	for i := range 32 {
		b := slices.Clone(content)
		b[len(b)-4+i/8] = 1 << (i % 8)
		known = append(known, reduced(change{1 << i, crc32.ChecksumIEEE(b) ^ zero}))
		slices.SortFunc(known, func(a, b change) int { return int(b.effect) - int(a.effect) })
	}
	binary.LittleEndian.PutUint32(content[len(content)-4:], reduced(change{0, sum ^ zero}).bits)
}

// contents returns contents of all kinds that a frame can have.
func contents() (l [][]byte) {
	l = append(l, nil, []byte{}, []byte("a"), []byte("123456789"), []byte{0, 0, 0, 0}, []byte{flag, escape}, []byte{escape, flag}, []byte{escape, 0x5e}, []byte{escape, escape, flag, flag})
	for c := range 256 {
		l = append(l, []byte{byte(c)})
	}
	for _, n := range []int{2, 3, 4, 5, 255, 256, 1000, mostContent - 1, mostContent} {
		for _, c := range []byte{flag, escape, 0, 0x5e, 0xff} {
			l = append(l, bytes.Repeat([]byte{c}, n))
		}
		l = append(l, pattern(n))
	}
	return append(l, frameOf([]byte("within")), frameOf(frameOf([]byte{flag})))
}

// rests returns what the Rest of a state may be, also of one that Feed never returns.
func rests() (l [][]byte) {
	l = append(l, nil, []byte{0}, []byte{flag}, []byte{escape}, []byte{0, 0, 0}, []byte{0, 0, 0, 0}, []byte{0, 0, 0, 1}, summed([]byte("123456789")), summed([]byte{flag, escape}), pattern(300))
	for _, n := range []int{mostContent - 1, mostContent, mostContent + 1, 9000} {
		l = append(l, summed(pattern(n)))
	}
	return append(l, pattern(mostRest-1), pattern(mostRest), pattern(mostRest+1))
}

// states returns states of all kinds, also those that Feed never returns.
func states() (l []api.Deframer) {
	for _, rest := range rests() {
		for i := range 8 {
			l = append(l, api.Deframer{Rest: rest, In: i&1 > 0, Escape: i&2 > 0, Bad: i&4 > 0})
		}
	}
	return l
}

// words returns all sequences of at most n of these bytes.
func words(n int, letters ...byte) (l [][]byte) {
	l = append(l, nil)
	for from := 0; n > 0; n-- {
		last := l[from:]
		from = len(l)
		for _, w := range last {
			for _, c := range letters {
				l = append(l, slices.Concat(w, []byte{c}))
			}
		}
	}
	return l
}

// streams returns streams of all kinds: frames with what may be between them.
func streams() (l [][]byte) {
	good := frameOf([]byte("good"))
	full := frameOf(bytes.Repeat([]byte{flag}, mostContent))
	long := frameOf(pattern(mostContent + 1))
	damaged := framed([]byte{1, 2, 3, 4, 5})
	l = append(l,
		nil,
		[]byte("bytes before the first flag"),
		good,
		slices.Concat(good, good, good),
		slices.Concat(good, good[1:], good[1:]),
		slices.Concat([]byte{flag, flag}, good, []byte{flag, flag, flag}, good),
		slices.Concat([]byte("\x7dnoise\x7d\x7d"), good, []byte("noise\x7d"), damaged, damaged[1:], good[:5]),
		slices.Concat(good[:4], good, []byte{escape}, good, frameOf(nil), frameOf([]byte{escape, flag})),
		slices.Concat(long, good, long[:mostRest], []byte{escape, flag}, good),
		slices.Concat(full, full[1:], long[:mostRest+200], good),
	)
	r := rand.New(rand.NewSource(3))
	for range 10 {
		stream := randomBytes(r, 20)
		for range 1 + r.Intn(5) {
			stream = slices.Concat(stream, frameOf(randomBytes(r, 30))[r.Intn(2):], randomBytes(r, 5))
		}
		l = append(l, stream)
	}
	return l
}

// begin returns the beginning of b, so that messages stay readable.
func begin(b []byte) []byte { return b[:min(len(b), 40)] }

// same tells whether two states are equal; no bytes and nil are.
func same(x, y api.Deframer) bool {
	return bytes.Equal(x.Rest, y.Rest) && x.In == y.In && x.Escape == y.Escape && x.Bad == y.Bad
}

// checkResult ends the test unless both results of Feed are equal: if one is wrong, thousands of them are.
func checkResult(t *testing.T, d api.Deframer, b []byte, x, wantX api.Deframer, l, want [][]byte, bad, wantBad int) {
	t.Helper()
	if same(x, wantX) && slices.EqualFunc(l, want, bytes.Equal) && bad == wantBad {
		return
	}
	t.Fatalf("Feed of %x (%d bytes) in the state with the Rest %x (%d bytes), %v, %v, %v: %d contents, %d damaged, Rest %x (%d bytes), %v, %v, %v; want %d contents, %d damaged, Rest %x (%d bytes), %v, %v, %v",
		begin(b), len(b), begin(d.Rest), len(d.Rest), d.In, d.Escape, d.Bad,
		len(l), bad, begin(x.Rest), len(x.Rest), x.In, x.Escape, x.Bad,
		len(want), wantBad, begin(wantX.Rest), len(wantX.Rest), wantX.In, wantX.Escape, wantX.Bad)
}

// checkFed compares Feed with a result that the test spells out.
func checkFed(t *testing.T, d api.Deframer, b []byte, want api.Deframer, wantBad int, contents ...[]byte) {
	t.Helper()
	x, l, bad := frame.Feed(d, b)
	checkResult(t, d, b, x, want, l, contents, bad, wantBad)
}

// checkFeed compares Feed with the second spelling.
func checkFeed(t *testing.T, d api.Deframer, b []byte) {
	t.Helper()
	x, l, bad := frame.Feed(d, b)
	want, contents, wantBad := fed(d, b)
	checkResult(t, d, b, x, want, l, contents, bad, wantBad)
}

// checkMake compares Make with the frame that it must return.
func checkMake(t *testing.T, content, want []byte) {
	t.Helper()
	if f, e := frame.Make(content); e != api.OK || !bytes.Equal(f, want) {
		t.Fatalf("Make of %x (%d bytes): %x (%d bytes), %v; want %x (%d bytes)", begin(content), len(content), begin(f), len(f), e, begin(want), len(want))
	}
}

// made returns the frame that Make returns.
func made(t *testing.T, content []byte) []byte {
	t.Helper()
	f, e := frame.Make(content)
	if e != api.OK {
		t.Fatalf("Make of %x (%d bytes): %v", begin(content), len(content), e)
	}
	return f
}
