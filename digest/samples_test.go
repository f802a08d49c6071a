package digest_test

import (
	"crypto/sha256"
	"encoding/hex"
	"math/rand"
	"strings"
	"testing"

	"wagonpool/api"
)

// hashed returns the SHA-256 digest of s as the standard library computes it.
func hashed(s string) api.Digest { return api.Digest(sha256.Sum256([]byte(s))) }

// fromHex returns the digest that is written down in hexadecimal.
func fromHex(t *testing.T, s string) (d api.Digest) {
	t.Helper()
	b, err := hex.DecodeString(s)
	if err != nil || len(b) != len(d) {
		t.Fatalf("%q is not a digest", s)
	}
	return api.Digest(b)
}

// checkDigest ends the test unless both digests are equal: if one is wrong, thousands of them are.
func checkDigest(t *testing.T, what string, got, want api.Digest) {
	t.Helper()
	if got != want {
		t.Fatalf("%s: %x, want %x", what, got, want)
	}
}

// pattern returns n bytes of which no two blocks are equal.
func pattern(n int) string {
	b := make([]byte, n)
	for i := range b {
		b[i] = byte(i*7 + i>>6*31)
	}
	return string(b)
}

// randomText returns up to n bytes.
func randomText(r *rand.Rand, n int) string {
	b := make([]byte, r.Intn(n+1))
	r.Read(b)
	return string(b)
}

// edgeTexts returns byte sequences that are hard to tell apart: they differ in length, in a zero byte, in one bit, or in where something ends.
func edgeTexts() []string {
	l := []string{"", "\x00", "\x00\x00", "\x01", "\x01\x00", "\x80", "\xff", "a", "a\x00", "\x00a", "ab", "b", "ba", "abc", "a\x80", "\x01a", "\x02ab", "next", "\x04next"}
	for _, n := range []int{31, 32, 54, 55, 56, 63, 64, 65, 119, 120, 128} {
		l = append(l, strings.Repeat("\x00", n), strings.Repeat("a", n), pattern(n))
	}
	return l
}

// edgeTags returns tags of all kinds of lengths; the first 255 bytes of any two of them are different.
func edgeTags() []string {
	l := []string{"", "\x00", "\x01", "\xff", "a", "ab", "abc", "next", "node", "nod", "\x04next", "a\x00", "\u00fc", "\xff\xfe"}
	for _, n := range []int{31, 32, 54, 55, 63, 64, 127, 128, 253, 254, 255} {
		l = append(l, strings.Repeat("t", n))
	}
	return append(l, strings.Repeat("u", 256), strings.Repeat("v", 257), strings.Repeat("w", 300), strings.Repeat("x", 511), strings.Repeat("y", 512), strings.Repeat("z", 70000))
}

func integer(n int) api.Value { return api.Value{Kind: api.IntV, N: n} }

func text(s string) api.Value { return api.Value{Kind: api.BytesV, B: []byte(s)} }

func list(l ...api.Value) api.Value { return api.Value{Kind: api.ListV, L: l} }

// nested returns v within n lists.
func nested(n int, v api.Value) api.Value {
	for range n {
		v = list(v)
	}
	return v
}
