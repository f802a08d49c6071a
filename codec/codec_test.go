package codec_test

import (
	"bytes"
	"math"
	"strings"
	"testing"

	"wagonpool/api"
	"wagonpool/codec"
)

// spelledOut lists values with their encodings: the chapter's examples, and the boundaries of what it defines.
func spelledOut() []struct {
	v api.Value
	b string
} {
	return []struct {
		v api.Value
		b string
	}{
		{integer(0), "\x20"},
		{integer(1), "\x21\x01"},
		{integer(24), "\x21\x18"},
		{integer(255), "\x21\xff"},
		{integer(256), "\x22\x01\x00"},
		{integer(1 << 55), "\x27\x80\x00\x00\x00\x00\x00\x00"},
		{integer(1 << 56), "\x28\x01\x00\x00\x00\x00\x00\x00\x00"},
		{integer(math.MaxInt), "\x28\x7f\xff\xff\xff\xff\xff\xff\xff"},
		{integer(-1), "\x1f"},
		{integer(-2), "\x1e\xfe"},
		{integer(-256), "\x1e\x00"},
		{integer(-257), "\x1d\xfe\xff"},
		{integer(-1 << 56), "\x18\x00\x00\x00\x00\x00\x00\x00"},
		{integer(-1<<56 - 1), "\x17\xfe\xff\xff\xff\xff\xff\xff\xff"},
		{integer(math.MinInt), "\x17\x80\x00\x00\x00\x00\x00\x00\x00"},
		{text(""), "\x30\x00\x00"},
		{text("\x00"), "\x30\x00\xff\x00\x00"},
		{text("\xff"), "\x30\xff\x00\x00"},
		{text("a\x00"), "\x30\x61\x00\xff\x00\x00"},
		{text("\x00\xff\x00\x00"), "\x30\x00\xff\xff\x00\xff\x00\xff\x00\x00"},
		{list(), "\x40\x00"},
		{list(integer(1), text("a"), list()), "\x40\x21\x01\x30\x61\x00\x00\x40\x00\x00"},
		{list(integer(0), integer(-1)), "\x40\x20\x1f\x00"},
		{nested(15, list()), strings.Repeat("\x40", 16) + strings.Repeat("\x00", 16)},
		{nested(16, integer(0)), strings.Repeat("\x40", 16) + "\x20" + strings.Repeat("\x00", 16)},
	}
}

// malformed returns values that are not well-formed because of their own fields.
func malformed() []api.Value {
	some := []api.Value{integer(0)}
	return []api.Value{
		{},
		{Kind: -1},
		{Kind: 4},
		{Kind: math.MaxInt, N: 1},
		{Kind: api.IntV, B: []byte{0}},
		{Kind: api.IntV, N: 1, L: some},
		{Kind: api.BytesV, N: 1},
		{Kind: api.BytesV, B: []byte("a"), L: some},
		{Kind: api.ListV, N: -1},
		{Kind: api.ListV, L: some, B: []byte("a")},
	}
}

// checkRejected fails the test unless Check and Encode reject v with the error want.
func checkRejected(t *testing.T, v api.Value, want api.Errno) {
	t.Helper()
	if e := codec.Check(v); e != want {
		t.Errorf("Check: %v, want %v", e, want)
	}
	if b, e := codec.Encode(v); e != want || len(b) != 0 {
		t.Errorf("Encode: %d bytes, %v, want %v", len(b), e, want)
	}
}

// checkAccepted fails the test unless Check and Encode accept v, with an encoding of this size.
func checkAccepted(t *testing.T, v api.Value, size int) {
	t.Helper()
	if e := codec.Check(v); e != api.OK {
		t.Errorf("Check: %v", e)
	}
	if b, e := codec.Encode(v); e != api.OK || len(b) != size {
		t.Errorf("Encode: %d bytes, %v, want %d", len(b), e, size)
	}
}

// P1.1: Encode returns the encoding that the chapter defines.
func TestEncodeSpelledOut(t *testing.T) {
	for _, c := range spelledOut() {
		if e := codec.Check(c.v); e != api.OK {
			t.Errorf("Check(%v): %v", c.v, e)
		}
		if b, e := codec.Encode(c.v); e != api.OK || string(b) != c.b {
			t.Errorf("Encode(%v): % x, %v, want % x", c.v, b, e, c.b)
		}
	}
}

// P1.1: the same for values that nobody chose.
func TestEncodeAsSpelled(t *testing.T) {
	for _, v := range append(edgeValues(), randomValues(5000)...) {
		if b, e := codec.Encode(v); e != api.OK || !bytes.Equal(b, spelled(v)) {
			t.Errorf("Encode(%v): % x, %v, want % x", v, b, e, spelled(v))
		}
	}
}

// P1.1: values that are not well-formed, also within lists.
func TestCheckShape(t *testing.T) {
	for _, bad := range malformed() {
		checkRejected(t, bad, api.ErrShape)
		checkRejected(t, list(bad), api.ErrShape)
		checkRejected(t, list(integer(1), list(text("a"), bad), integer(2)), api.ErrShape)
	}
}

// P1.1: an unused field that is empty, but not nil, does not matter (R3).
func TestCheckEmptyFields(t *testing.T) {
	none, nothing := []byte{}, []api.Value{}
	checkAccepted(t, api.Value{Kind: api.IntV, N: 7, B: none, L: nothing}, 2)
	checkAccepted(t, api.Value{Kind: api.BytesV, B: none, L: nothing}, 3)
	checkAccepted(t, api.Value{Kind: api.ListV, B: none, L: nothing}, 2)
}

// P1.1: the limits of the nesting; an empty list counts as one level.
func TestCheckNesting(t *testing.T) {
	checkAccepted(t, nested(15, list()), 32)
	checkAccepted(t, nested(16, integer(0)), 33)
	checkAccepted(t, nested(16, text("")), 35)
	checkRejected(t, nested(16, list()), api.ErrLimit)
	checkRejected(t, nested(17, integer(0)), api.ErrLimit)
	checkRejected(t, list(nested(16, integer(0)), integer(0)), api.ErrLimit)
	checkRejected(t, list(integer(0), nested(16, integer(0)), integer(0)), api.ErrLimit)
	checkRejected(t, nested(1<<16-1, list()), api.ErrLimit)
}

// P1.1: the limits of the size; a byte 0 in a byte string needs two bytes.
func TestCheckSize(t *testing.T) {
	ones := bytes.Repeat([]byte{1}, api.MaxValue)
	zeros := make([]byte, api.MaxValue)
	checkAccepted(t, text(string(ones[3:])), api.MaxValue)
	checkRejected(t, text(string(ones[2:])), api.ErrLimit)
	checkAccepted(t, text(string(zeros[:32766])), api.MaxValue-1)
	checkAccepted(t, text("a"+string(zeros[:32766])), api.MaxValue)
	checkRejected(t, text(string(zeros[:32767])), api.ErrLimit)
	numbers := make([]api.Value, api.MaxValue)
	for i := range numbers {
		numbers[i] = integer(0)
	}
	checkAccepted(t, list(numbers[2:]...), api.MaxValue)
	checkRejected(t, list(numbers[1:]...), api.ErrLimit)
	checkAccepted(t, list(list(numbers[4:]...)), api.MaxValue)
	checkRejected(t, list(list(numbers[4:]...), integer(0)), api.ErrLimit)
	checkIntegerSize(t, 1<<32, 6)
	checkIntegerSize(t, -1<<32, 5)
}

// checkIntegerSize checks the limit of the size with an integer whose encoding has k bytes, and a byte string that fills the rest.
func checkIntegerSize(t *testing.T, n, k int) {
	t.Helper()
	rest := strings.Repeat("a", api.MaxValue-2-3-k)
	checkAccepted(t, list(integer(n), text(rest)), api.MaxValue)
	checkRejected(t, list(integer(n), text(rest+"a")), api.ErrLimit)
}

// P1.1: ErrShape comes before ErrLimit, wherever the value is not well-formed.
func TestCheckShapeBeforeLimit(t *testing.T) {
	long := text(strings.Repeat("a", api.MaxValue))
	for _, bad := range malformed() {
		checkRejected(t, nested(17, bad), api.ErrShape)
		checkRejected(t, list(long, bad), api.ErrShape)
		checkRejected(t, list(nested(17, integer(0)), bad, long), api.ErrShape)
		checkRejected(t, nested(1<<16-1, bad), api.ErrShape)
	}
	long.N = 1
	checkRejected(t, long, api.ErrShape)
}

// P1.7: the encoding of a list is made of the encodings of its elements alone.
func TestEncodeLists(t *testing.T) {
	l := append(edgeValues(), randomValues(500)...)
	for i, a := range l {
		c := l[(i*7+3)%len(l)]
		var inner []byte
		for _, v := range []api.Value{a, c, a} {
			x, _ := codec.Encode(v)
			inner = append(inner, x...)
		}
		want := "\x40" + string(inner) + "\x00"
		b, e := codec.Encode(list(a, c, a))
		if e == api.ErrLimit {
			continue // one level too deep
		}
		if e != api.OK || string(b) != want {
			t.Errorf("list of %v, %v: % x, %v, want % x", a, c, b, e, want)
		}
	}
}

// R2: Encode does not modify the value, and does not return memory of it.
func TestEncodeMemory(t *testing.T) {
	v := list(text("ab\x00"), list(text("c")))
	b, _ := codec.Encode(v)
	for i := range b {
		b[i] = 9
	}
	if !same(v, list(text("ab\x00"), list(text("c")))) {
		t.Errorf("the value is now %v", v)
	}
}
