package codec_test

import (
	"bytes"
	"math"
	"math/big"
	"math/rand"
	"slices"

	"wagonpool/api"
)

func integer(n int) api.Value { return api.Value{Kind: api.IntV, N: n} }

func text(s string) api.Value { return api.Value{Kind: api.BytesV, B: []byte(s)} }

func list(l ...api.Value) api.Value { return api.Value{Kind: api.ListV, L: l} }

// nested returns v within n lists.
func nested(n int, v api.Value) api.Value {
	for range n {
		v = list(v)
	}
	return v
}

// same reports whether two values have equal fields; it does not distinguish nil from empty slices.
func same(a, b api.Value) bool {
	return a.Kind == b.Kind && a.N == b.N && bytes.Equal(a.B, b.B) && slices.EqualFunc(a.L, b.L, same)
}

// spelled returns the encoding of a well-formed value, written down from the chapter in another way than the program's.
func spelled(v api.Value) []byte {
	switch v.Kind {
	case api.IntV:
		return spelledInteger(v.N)
	case api.BytesV:
		s := bytes.ReplaceAll(v.B, []byte{0}, []byte{0, 255})
		return slices.Concat([]byte{0x30}, s, []byte{0, 0})
	}
	return slices.Concat([]byte{0x40}, concatenation(v.L), []byte{0})
}

func spelledInteger(n int) []byte {
	m := big.NewInt(int64(n))
	if n >= 0 {
		return append([]byte{byte(0x20 + len(m.Bytes()))}, m.Bytes()...)
	}
	digits := m.Neg(m).Sub(m, big.NewInt(1)).Bytes()
	b := []byte{byte(0x1f - len(digits))}
	for _, d := range digits {
		b = append(b, 255-d)
	}
	return b
}

// concatenation returns the encodings of the values, one after the other.
func concatenation(l []api.Value) (b []byte) {
	for _, v := range l {
		b = append(b, spelled(v)...)
	}
	return b
}

// edgeIntegers returns the integers on both sides of the boundaries between numbers of bytes, and the least and the greatest ones.
func edgeIntegers() []int {
	l := []int{math.MinInt, math.MinInt + 1, math.MaxInt - 1, math.MaxInt}
	for k := range 8 {
		for d := -2; d <= 2; d++ {
			l = append(l, 1<<(8*k)+d, -1<<(8*k)+d)
		}
	}
	slices.Sort(l)
	return slices.Compact(l)
}

// edgeValues returns different values that Check accepts, among them those that are hard to tell apart in an encoding.
func edgeValues() (l []api.Value) {
	for _, n := range edgeIntegers() {
		l = append(l, integer(n))
	}
	for _, s := range []string{"", "\x00", "\x00\x00", "\x00\x01", "\x00\xff", "\x01", "\x20", "\x30\x00\x00", "\x40\x00", "a", "a\x00", "a\x00b", "ab", "\xff", "\xff\x00", "\xff\xff"} {
		l = append(l, text(s), list(text(s)), list(text(s), integer(0)))
	}
	l = append(l, list(), list(list()), list(list(), list()), nested(15, list()), nested(16, integer(0)))
	for _, n := range []int{-257, -1, 0, 1, 256} {
		l = append(l, list(integer(n)), list(integer(n), integer(0)), list(integer(n), text("")), list(list(integer(n))))
	}
	return l
}

// randomValues returns n values that Check accepts; equal calls return equal values.
func randomValues(n int) (l []api.Value) {
	r := rand.New(rand.NewSource(1))
	for range n {
		l = append(l, randomValue(r, 4))
	}
	return l
}

func randomValue(r *rand.Rand, nesting int) api.Value {
	switch r.Intn(4) {
	case 0:
		return integer(int(r.Uint64()) >> r.Intn(64))
	case 1:
		return text(randomText(r))
	}
	v := list()
	for n := r.Intn(4); n > 0 && nesting > 0; n-- {
		v.L = append(v.L, randomValue(r, nesting-1))
	}
	return v
}

// randomText prefers the bytes that have a meaning in encodings.
func randomText(r *rand.Rand) string {
	var b []byte
	for range r.Intn(5) {
		b = append(b, "\x00\x00\x01\x20\x30\x40\xffa"[r.Intn(8)])
	}
	return string(b)
}
