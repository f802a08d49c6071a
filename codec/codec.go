// Package codec is layer 1: canonical, order-preserving encoding of values; see shared/doc/01-codec.md.
package codec

import (
	"bytes"
	"cmp"
	"slices"

	"wagonpool/api"
)

// The first bytes of encodings. Their order is the order of the kinds, and endMark precedes all of them: a list precedes those that it begins.
const (
	endMark     = 0x00 // ends a byte string (twice) and a list
	belowMark   = 0x1f // a negative integer, minus the number of its digits: the more digits, the smaller the integer
	integerMark = 0x20 // another integer, plus the number of its digits
	bytesMark   = 0x30
	listMark    = 0x40
)

// escape follows a byte 0 in a byte string, so that two bytes 0 end it.
const escape = 0xff

// maxWidth is the greatest number of digits of an integer.
const maxWidth = 8

// Check returns ErrShape unless v is well-formed: Kind is IntV, BytesV or ListV, and fields that the kind does not use are zero or empty (in v and in all elements); ErrLimit if lists are nested more than MaxNesting deep or the encoding has more than MaxValue bytes.
func Check(v api.Value) (e api.Errno) {
	_, e = measure(v)
	return e
}

// Encode returns the encoding of v, or the error of Check.
func Encode(v api.Value) (b []byte, e api.Errno) {
	size, e := measure(v)
	if e != api.OK {
		return nil, e
	}
	return appendValue(make([]byte, 0, size), v), api.OK
}

// Compare compares two values: integers come before byte strings, and these before lists; it returns -1, 0 or 1.
func Compare(a, b api.Value) (c int) {
	if a.Kind != b.Kind {
		return cmp.Compare(a.Kind, b.Kind)
	}
	switch a.Kind {
	case api.IntV:
		return cmp.Compare(a.N, b.N)
	case api.BytesV:
		return bytes.Compare(a.B, b.B)
	case api.ListV:
		return slices.CompareFunc(a.L, b.L, Compare)
	}
	return 0
}

// measure returns the number of bytes of the encoding of v, or the error of Check.
func measure(v api.Value) (size int, e api.Errno) {
	nesting, size, ok := extent(v)
	if !ok {
		return 0, api.ErrShape
	}
	if nesting > api.MaxNesting || size > api.MaxValue {
		return 0, api.ErrLimit
	}
	return size, api.OK
}

// extent returns the nesting of v and the number of bytes of its encoding, and whether it is well-formed. It visits all elements even where a limit is already exceeded, because their form decides which error applies.
func extent(v api.Value) (nesting, size int, ok bool) {
	switch v.Kind {
	case api.IntV:
		return 0, 1 + width(magnitude(v.N)), len(v.B) == 0 && len(v.L) == 0
	case api.BytesV:
		return 0, 3 + len(v.B) + bytes.Count(v.B, []byte{0}), v.N == 0 && len(v.L) == 0
	case api.ListV:
		nesting, size, ok = listExtent(v.L)
		return nesting, size, ok && v.N == 0 && len(v.B) == 0
	}
	return 0, 0, false
}

// listExtent is extent for the list of the elements l.
func listExtent(l []api.Value) (nesting, size int, ok bool) {
	size = 2
	for _, x := range l {
		n, s, ok := extent(x)
		if !ok {
			return 0, 0, false
		}
		nesting = max(nesting, n)
		size += s
	}
	return nesting + 1, size, true
}

// appendValue appends the encoding of a well-formed value.
func appendValue(b []byte, v api.Value) []byte {
	switch v.Kind {
	case api.IntV:
		return appendInteger(b, v.N)
	case api.BytesV:
		return appendBytes(b, v.B)
	}
	b = append(b, listMark)
	for _, x := range v.L {
		b = appendValue(b, x)
	}
	return append(b, endMark)
}

func appendInteger(b []byte, n int) []byte {
	m := magnitude(n)
	k := width(m)
	mark, flip := integerMark+k, byte(0)
	if n < 0 {
		mark, flip = belowMark-k, 0xff
	}
	b = append(b, byte(mark))
	for i := range k {
		b = append(b, byte(m>>(8*(k-1-i)))^flip)
	}
	return b
}

func appendBytes(b, s []byte) []byte {
	b = append(b, bytesMark)
	for _, c := range s {
		b = append(b, c)
		if c == 0 {
			b = append(b, escape)
		}
	}
	return append(b, endMark, endMark)
}

// magnitude returns the number whose digits in base 256 encode n. For n < 0 it is -(n + 1) rather than -n, which would not fit an int for the least one.
func magnitude(n int) uint64 {
	if n < 0 {
		return uint64(^n)
	}
	return uint64(n)
}

// width returns the number of digits of m in base 256, without leading zeros.
func width(m uint64) int {
	for k := range maxWidth {
		if m>>(8*k) == 0 {
			return k
		}
	}
	return maxWidth
}
