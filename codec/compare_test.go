package codec_test

import (
	"bytes"
	"math"
	"strings"
	"testing"

	"wagonpool/api"
	"wagonpool/codec"
)

// increasing returns values of which each precedes the next one.
func increasing() []api.Value {
	return []api.Value{
		{Kind: math.MinInt}, {Kind: -1}, {},
		integer(math.MinInt), integer(-1 << 56), integer(-257), integer(-256), integer(-2), integer(-1), integer(0), integer(1), integer(255), integer(256), integer(math.MaxInt),
		text(""), text("\x00"), text("\x00\x00"), text("\x00\xff"), text("\x01"), text("a"), text("a\x00"), text("ab"), text("b"), text("\x7f"), text("\x80"), text("\xff"), text("\xff\x00"),
		list(), list(api.Value{}), list(integer(-1)), list(integer(1)), list(integer(1), integer(0)), list(integer(1), list()), list(integer(2)), list(text("")), list(text(""), integer(0)), list(list()), list(list(), integer(0)), list(list(), list()), list(list(integer(0))), list(api.Value{Kind: 4}),
		{Kind: 4}, {Kind: math.MaxInt},
	}
}

// P1.1: the order that the chapter defines, for all values.
func TestCompareIncreasing(t *testing.T) {
	l := increasing()
	for i, a := range l {
		for k, b := range l {
			want := 0
			if i < k {
				want = -1
			} else if i > k {
				want = 1
			}
			if c := codec.Compare(a, b); c != want {
				t.Errorf("Compare(%v, %v): %d, want %d", a, b, c, want)
			}
		}
	}
}

// P1.1: fields that a kind does not use are ignored.
func TestCompareUnusedFields(t *testing.T) {
	some := []api.Value{integer(5)}
	for _, c := range []struct{ a, b api.Value }{
		{integer(1), api.Value{Kind: api.IntV, N: 1, B: []byte("a"), L: some}},
		{text("a"), api.Value{Kind: api.BytesV, B: []byte("a"), N: -1, L: some}},
		{list(integer(5)), api.Value{Kind: api.ListV, L: some, N: 7, B: []byte("a")}},
		{list(text("")), list(api.Value{Kind: api.BytesV, N: 1})},
		{api.Value{}, api.Value{N: 1, B: []byte("a"), L: some}},
		{api.Value{Kind: 4, N: 1}, api.Value{Kind: 4, N: 2, B: []byte("a"), L: some}},
		{api.Value{Kind: -4, L: some}, api.Value{Kind: -4}},
	} {
		if x, y := codec.Compare(c.a, c.b), codec.Compare(c.b, c.a); x != 0 || y != 0 {
			t.Errorf("Compare(%v, %v): %d and %d", c.a, c.b, x, y)
		}
	}
}

// P1.1: values beyond the limits have an order, too.
func TestCompareBeyondLimits(t *testing.T) {
	const n = 1<<16 - 1
	long := text(strings.Repeat("a", api.MaxValue+1))
	for _, c := range []struct{ a, b api.Value }{
		{nested(n, integer(0)), nested(n, integer(1))},
		{nested(n-1, list()), nested(n, list())},
		{text(strings.Repeat("a", api.MaxValue)), long},
		{list(long), list(long, integer(0))},
	} {
		if x, y, z := codec.Compare(c.a, c.b), codec.Compare(c.b, c.a), codec.Compare(c.b, c.b); x != -1 || y != 1 || z != 0 {
			t.Errorf("Compare: %d, %d, %d", x, y, z)
		}
	}
}

// P1.4: Compare is the byte order of the encodings.
func TestCompareEncodings(t *testing.T) {
	l := append(edgeValues(), randomValues(500)...)
	for _, a := range l {
		x, _ := codec.Encode(a)
		for _, b := range l {
			y, _ := codec.Encode(b)
			if c, want := codec.Compare(a, b), bytes.Compare(x, y); c != want {
				t.Errorf("Compare(%v, %v): %d, but the encodings % x and % x: %d", a, b, c, x, y, want)
			}
		}
	}
}

// P1.6: Compare is reflexive, antisymmetric and transitive on all values.
func TestCompareTotalOrder(t *testing.T) {
	l := append(append(malformed(), increasing()...), randomValues(60)...)
	l = append(l, list(malformed()...), list(malformed()[1:]...), nested(17, integer(0)))
	for _, a := range l {
		if c := codec.Compare(a, a); c != 0 {
			t.Errorf("Compare(%v, itself): %d", a, c)
		}
		for _, b := range l {
			ab := codec.Compare(a, b)
			if ba := codec.Compare(b, a); ab < -1 || ab > 1 || ba != -ab {
				t.Errorf("Compare(%v, %v): %d, and %d the other way round", a, b, ab, ba)
			}
			if ab > 0 {
				continue
			}
			for _, c := range l {
				if bc := codec.Compare(b, c); bc <= 0 && codec.Compare(a, c) != min(ab, bc) {
					t.Errorf("%v, %v, %v: %d, %d, %d", a, b, c, ab, bc, codec.Compare(a, c))
				}
			}
		}
	}
}

// P1.6: two well-formed values are equal exactly if Compare returns 0.
func TestCompareEqual(t *testing.T) {
	l := append(edgeValues(), randomValues(500)...)
	for _, a := range l {
		for _, b := range l {
			if c := codec.Compare(a, b); (c == 0) != same(a, b) {
				t.Errorf("Compare(%v, %v): %d", a, b, c)
			}
		}
	}
	empty := api.Value{Kind: api.BytesV, B: []byte{}, L: []api.Value{}}
	if c := codec.Compare(empty, text("")); c != 0 {
		t.Errorf("nil and empty slices: %d", c)
	}
}

// P1.7: lists compare like the concatenations of the encodings of their elements.
func TestCompareLists(t *testing.T) {
	var lists [][]api.Value
	for _, v := range append(edgeValues(), randomValues(500)...) {
		if v.Kind == api.ListV {
			lists = append(lists, v.L)
		}
	}
	for _, a := range lists {
		for _, b := range lists {
			c, want := codec.Compare(list(a...), list(b...)), bytes.Compare(concatenation(a), concatenation(b))
			if c != want {
				t.Errorf("Compare of the lists %v and %v: %d, want %d", a, b, c, want)
			}
		}
	}
}
