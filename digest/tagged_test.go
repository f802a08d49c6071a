package digest_test

import (
	"fmt"
	"math/rand"
	"slices"
	"strings"
	"testing"

	"wagonpool/api"
	"wagonpool/codec"
	"wagonpool/digest"
)

// P2.2: Tagged hashes the length of the tag, the tag, and the bytes.
func TestTaggedSpelledOut(t *testing.T) {
	t254, t255 := strings.Repeat("t", 254), strings.Repeat("t", 255)
	for _, c := range []struct{ tag, b, hashes string }{
		{"a", "bc", "\x01abc"},
		{"", "", "\x00"},
		{"", "abc", "\x00abc"},
		{"abc", "", "\x03abc"},
		{"\x00", "\x00", "\x01\x00\x00"},
		{"\u00fc", "\xff", "\x02\xc3\xbc\xff"},
		{"node", pattern(64), "\x04node" + pattern(64)},
		{t254, "b", "\xfe" + t254 + "b"},
		{t255, "b", "\xff" + t255 + "b"},
		{t255 + "t", "b", "\xff" + t255 + "b"},
		{t255 + "uvw", "", "\xff" + t255},
		{t254 + "\u00fc", "b", "\xff" + t254 + "\xc3b"},
		{pattern(256), "b", "\xff" + pattern(255) + "b"},
		{pattern(257), "b", "\xff" + pattern(255) + "b"},
		{pattern(511), "b", "\xff" + pattern(255) + "b"},
		{pattern(512), "", "\xff" + pattern(255)},
		{pattern(1 << 20), pattern(1 << 20), "\xff" + pattern(255) + pattern(1<<20)},
	} {
		checkDigest(t, fmt.Sprintf("Tagged(%.20q, %.20q)", c.tag, c.b), digest.Tagged(c.tag, []byte(c.b)), hashed(c.hashes))
	}
}

// P2.2: all lengths of tags, so that each value of the first byte occurs, with bytes that end anywhere in a block.
func TestTaggedLengths(t *testing.T) {
	for n := range 600 {
		tag := pattern(n)
		used := tag[:min(n, 255)]
		for _, b := range []string{"", "b", pattern(n % 131)} {
			checkDigest(t, fmt.Sprintf("a tag of %d bytes", n), digest.Tagged(tag, []byte(b)), hashed(string([]byte{byte(len(used))})+used+b))
		}
	}
}

// valueSamples returns values that codec.Encode accepts, with their encodings.
func valueSamples() []struct {
	v api.Value
	b string
} {
	return []struct {
		v api.Value
		b string
	}{
		{integer(0), "\x20"},
		{integer(-1), "\x1f"},
		{integer(24), "\x21\x18"},
		{text(""), "\x30\x00\x00"},
		{text("a\x00"), "\x30a\x00\xff\x00\x00"},
		{list(), "\x40\x00"},
		{list(integer(1), text("a"), list()), "\x40\x21\x01\x30a\x00\x00\x40\x00\x00"},
		{nested(16, integer(0)), strings.Repeat("\x40", 16) + "\x20" + strings.Repeat("\x00", 16)},
		{text(strings.Repeat("a", api.MaxValue-3)), "\x30" + strings.Repeat("a", api.MaxValue-3) + "\x00\x00"},
	}
}

// P2.2: Value is Tagged of the encoding.
func TestValueSpelledOut(t *testing.T) {
	for i, c := range valueSamples() {
		d, e := digest.Value("t", c.v)
		if e != api.OK || d != hashed("\x01t"+c.b) {
			t.Errorf("value %d: %x, %v", i, d, e)
		}
	}
	for i, tag := range edgeTags() {
		v := list(integer(i), text(tag[:len(tag)/2]))
		b, _ := codec.Encode(v)
		d, e := digest.Value(tag, v)
		if e != api.OK || d != digest.Tagged(tag, b) {
			t.Errorf("tag %d: %x, %v", i, d, e)
		}
	}
}

// P2.2: with a value that has no encoding, Value returns the zero digest and the error of codec.Encode.
func TestValueErrors(t *testing.T) {
	long := text(strings.Repeat("a", api.MaxValue-2))
	misshaped := api.Value{Kind: api.IntV, B: []byte("a")}
	for i, c := range []struct {
		v    api.Value
		want api.Errno
	}{
		{api.Value{}, api.ErrShape},
		{api.Value{Kind: 4}, api.ErrShape},
		{api.Value{Kind: -1}, api.ErrShape},
		{misshaped, api.ErrShape},
		{api.Value{Kind: api.BytesV, N: 1}, api.ErrShape},
		{api.Value{Kind: api.ListV, B: []byte("a")}, api.ErrShape},
		{list(integer(1), list(misshaped)), api.ErrShape},
		{long, api.ErrLimit},
		{text(strings.Repeat("\x00", api.MaxValue/2)), api.ErrLimit},
		{list(text(strings.Repeat("a", api.MaxValue-4))), api.ErrLimit},
		{nested(16, list()), api.ErrLimit},
		{nested(17, integer(0)), api.ErrLimit},
		{nested(1<<16-1, list()), api.ErrLimit},
		{list(long, misshaped), api.ErrShape},
		{nested(17, misshaped), api.ErrShape},
	} {
		for _, tag := range []string{"", "t", strings.Repeat("t", 300)} {
			d, e := digest.Value(tag, c.v)
			if e != c.want || d != (api.Digest{}) {
				t.Errorf("value %d: %x, %v, want %v", i, d, e, c.want)
			}
			if _, e := codec.Encode(c.v); e != c.want {
				t.Errorf("value %d: codec.Encode: %v", i, e)
			}
		}
	}
}

// P2.2: Next hashes the tag next, the digest, and the bytes.
func TestNextSpelledOut(t *testing.T) {
	full := api.Digest([]byte(strings.Repeat("\xff", 32)))
	for _, d := range []api.Digest{{}, {1}, {31: 1}, full, hashed("abc"), api.Digest([]byte(pattern(32)))} {
		for _, b := range append(edgeTexts(), pattern(70000)) {
			want := hashed("\x04next" + string(d[:]) + b)
			checkDigest(t, "Next", digest.Next(d, []byte(b)), want)
			checkDigest(t, "Tagged of the same", digest.Tagged("next", append(d[:], b...)), want)
		}
	}
}

// unique contains digests with what they were made of; add ends the test if it is there already.
type unique map[api.Digest]string

func (u unique) add(t *testing.T, d api.Digest, what string) {
	t.Helper()
	if other, ok := u[d]; ok {
		t.Fatalf("%.60q and %.60q have the same digest %x", other, what, d)
	}
	u[d] = what
}

// P2.3: digests with different tags or contents are different.
func TestTaggedSeparation(t *testing.T) {
	u := unique{}
	for _, tag := range edgeTags() {
		for _, b := range edgeTexts() {
			u.add(t, digest.Tagged(tag, []byte(b)), tag+" / "+b)
		}
	}
}

// P2.3: a byte that is moved from the tag to the bytes changes the digest, also where one byte no longer holds the length of both.
func TestTaggedMovedByte(t *testing.T) {
	for _, s := range []string{"abcdef", "aaaaaaaa", "\x00\x00\x00\x00", "\x01\x01\x01\x01", pattern(255), strings.Repeat("t", 600)} {
		u := unique{}
		for i := range len(s) + 1 {
			u.add(t, digest.Tagged(s[:i], []byte(s[i:])), s[:i]+" / "+s[i:])
		}
	}
}

// P2.3: only the first 255 bytes of a tag tell it from others, and they all do.
func TestTaggedLongTags(t *testing.T) {
	tag := strings.Repeat("t", 255)
	want := digest.Tagged(tag, []byte("b"))
	for _, more := range []string{"", "t", "u", "\x00", tag, pattern(70000)} {
		checkDigest(t, "a longer tag", digest.Tagged(tag+more, []byte("b")), want)
	}
	u := unique{want: tag}
	u.add(t, digest.Tagged(tag, []byte("tb")), "the 256th byte in the bytes")
	for i := range tag {
		other := tag[:i] + "u" + tag[i+1:] + "x"
		u.add(t, digest.Tagged(other, []byte("b")), other)
	}
}

// P2.3: tags and contents that nobody chose are told apart.
func TestTaggedSeparationRandom(t *testing.T) {
	r := rand.New(rand.NewSource(2))
	u := unique{}
	seen := map[[2]string]bool{}
	for range 20000 {
		k := [2]string{randomText(r, 3), randomText(r, 3)}
		if !seen[k] {
			seen[k] = true
			u.add(t, digest.Tagged(k[0], []byte(k[1])), k[0]+" / "+k[1])
		}
	}
}

// P2.3: the same holds for Value, and values that differ.
func TestValueSeparation(t *testing.T) {
	u := unique{}
	for i, v := range differentValues() {
		b, _ := codec.Encode(v)
		for _, tag := range []string{"", "t", "tt", "node", strings.Repeat("t", 255)} {
			d, e := digest.Value(tag, v)
			if e != api.OK {
				t.Errorf("value %d: %v", i, e)
			}
			u.add(t, d, tag+" / "+string(b))
		}
	}
}

// differentValues returns values of which no two are equal.
func differentValues() []api.Value {
	l := []api.Value{list(), list(list()), list(list(), list()), list(list(list()))}
	for _, n := range []int{-1 << 63, -257, -256, -1, 0, 1, 255, 256, 1<<63 - 1} {
		l = append(l, integer(n), list(integer(n)), list(list(integer(n))), list(integer(n), text("")))
	}
	for _, s := range edgeTexts() {
		l = append(l, text(s), list(text(s)), list(text(s), text("")), list(text("a"), text(s)))
	}
	slices.SortFunc(l, codec.Compare)
	return slices.CompactFunc(l, func(a, b api.Value) bool { return codec.Compare(a, b) == 0 })
}
