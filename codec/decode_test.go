package codec_test

import (
	"bytes"
	"strings"
	"testing"

	"wagonpool/api"
	"wagonpool/codec"
)

// checkRefused fails the test unless Decode returns the error want and the zero value.
func checkRefused(t *testing.T, b []byte, want api.Errno) {
	t.Helper()
	if v, e := codec.Decode(b); e != want || !same(v, api.Value{}) {
		t.Errorf("Decode(% .40x), %d bytes: %v, %v, want %v", b, len(b), v, e, want)
	}
}

// P1.1: Decode returns the value whose encoding the bytes are.
func TestDecodeSpelledOut(t *testing.T) {
	for _, c := range spelledOut() {
		if v, e := codec.Decode([]byte(c.b)); e != api.OK || !same(v, c.v) {
			t.Errorf("Decode(% x): %v, %v, want %v", c.b, v, e, c.v)
		}
	}
}

// P1.1: bytes that only begin an encoding.
func TestDecodeShort(t *testing.T) {
	for _, b := range []string{
		"", "\x22\x01", "\x30\x61\x00", "\x40\x20",
		"\x21", "\x1e", "\x28", "\x28\x7f", "\x17", "\x17\x80", "\x22\x01", "\x1d\xfe",
		"\x30", "\x30\x00", "\x30\xff", "\x30\x00\xff", "\x30\x00\xff\x00",
		"\x40", "\x40\x40\x00", "\x40\x30\x00\x00", "\x40\x28\x01", "\x40\x20\x30a\x00",
	} {
		checkRefused(t, []byte(b), api.ErrShort)
	}
}

// P1.1: bytes with which no encoding begins, whatever follows them.
func TestDecodeForm(t *testing.T) {
	for _, b := range []string{
		"\x21\x00", "\x20\x20", "\x30\x00\x01", "\x41", "\x28\x80",
		"\x00", "\x00\x00", "\x16", "\x29", "\x2f", "\x31", "\x3f", "\xff",
		"\x22\x00", "\x28\x00", "\x28\xff", "\x1e\xff", "\x1d\xff", "\x17\xff", "\x17\x7f", "\x17\x00",
		"\x30\x00\xfe", "\x30a\x00\xff\x00\x02",
		"\x40\x41", "\x40\x21\x00", "\x40\x40\x16", "\x40\x20\x30\x00\x01", "\x40\xff",
	} {
		checkRefused(t, []byte(b), api.ErrForm)
		checkRefused(t, []byte(b+"\x20"), api.ErrForm)
		checkRefused(t, []byte(b+"\x00\x00\x00\x00\x00\x00\x00\x00\x00"), api.ErrForm)
	}
}

// P1.1: of the first bytes, and of the first bytes of integers, exactly those that the chapter lists begin an encoding.
func TestDecodeFirstBytes(t *testing.T) {
	for c := range 256 {
		want := api.ErrForm
		switch {
		case c == 0x1f || c == 0x20:
			want = api.OK
		case c >= 0x17 && c <= 0x28 || c == 0x30 || c == 0x40:
			want = api.ErrShort
		}
		if _, e := codec.Decode([]byte{byte(c)}); e != want {
			t.Errorf("first byte %#x: %v, want %v", c, e, want)
		}
		for k := 1; k <= 8; k++ {
			checkFirstDigit(t, byte(0x20+k), byte(c), k, c)
			checkFirstDigit(t, byte(0x1f-k), byte(255-c), k, c)
		}
	}
}

// checkFirstDigit decodes the beginning of an integer of k digits whose first one has the value digit.
func checkFirstDigit(t *testing.T, mark, c byte, k, digit int) {
	t.Helper()
	want := api.ErrShort
	if digit == 0 || k == 8 && digit > 127 {
		want = api.ErrForm
	} else if k == 1 {
		want = api.OK
	}
	if _, e := codec.Decode([]byte{mark, c}); e != want {
		t.Errorf("Decode(%x %x): %v, want %v", mark, c, e, want)
	}
}

// P1.1: the size decides first, then the form, and the nesting last.
func TestDecodeLimits(t *testing.T) {
	for _, c := range []byte{0, 0x20, 0x30, 0x40} {
		checkRefused(t, bytes.Repeat([]byte{c}, api.MaxValue+1), api.ErrLimit)
	}
	checkRefused(t, bytes.Repeat([]byte{0x40}, api.MaxValue), api.ErrShort)
	checkRefused(t, bytes.Repeat([]byte{0x20}, api.MaxValue), api.ErrForm)
	longest := text(strings.Repeat("\xff", api.MaxValue-3))
	if v, e := codec.Decode(spelled(longest)); e != api.OK || !same(v, longest) {
		t.Errorf("longest byte string: %v", e)
	}
	checkRefused(t, spelled(text(strings.Repeat("\xff", api.MaxValue-2))), api.ErrLimit)

	deep := spelled(nested(16, list()))
	checkRefused(t, deep, api.ErrLimit)
	checkRefused(t, spelled(nested(17, integer(0))), api.ErrLimit)
	checkRefused(t, spelled(list(nested(16, integer(0)), integer(0))), api.ErrLimit)
	checkRefused(t, spelled(list(integer(0), nested(16, integer(0)), list())), api.ErrLimit)
	checkRefused(t, spelled(nested(1<<15-1, list())), api.ErrLimit)
	checkRefused(t, deep[:len(deep)-1], api.ErrShort)
	checkRefused(t, append(deep[:len(deep):len(deep)], 0), api.ErrForm)
	checkRefused(t, append(deep[:17:17], 0x41), api.ErrForm)
}

// P1.2: Decode of the encoding of a value returns the value.
func TestDecodeInverse(t *testing.T) {
	for _, v := range append(edgeValues(), randomValues(5000)...) {
		b, e := codec.Encode(v)
		if e != api.OK {
			t.Errorf("Encode(%v): %v", v, e)
		}
		if x, e := codec.Decode(b); e != api.OK || !same(x, v) {
			t.Errorf("Decode(% x): %v, %v, want %v", b, x, e, v)
		}
	}
}

// sequences calls f with all sequences of at most n bytes of the alphabet.
func sequences(alphabet string, n int, f func(b []byte)) {
	var extend func(b []byte)
	extend = func(b []byte) {
		f(b)
		if len(b) == n {
			return
		}
		for i := range len(alphabet) {
			extend(append(b[:len(b):len(b)], alphabet[i]))
		}
	}
	extend(nil)
}

// P1.3: every byte sequence that Decode accepts is the encoding of the value that it returns.
func TestDecodeCanonical(t *testing.T) {
	accepted := 0
	sequences("\x00\x01\x17\x1d\x1e\x1f\x20\x21\x22\x28\x30\x40\x7f\x80\xff", 5, func(b []byte) {
		v, e := codec.Decode(b)
		if e != api.OK {
			return
		}
		accepted++
		if x, e := codec.Encode(v); e != api.OK || !bytes.Equal(x, b) {
			t.Errorf("Decode accepts % x as %v, whose encoding is % x, %v", b, v, x, e)
		}
	})
	if accepted < 1000 {
		t.Errorf("Decode accepts only %d sequences", accepted)
	}
}

// P1.3: a changed byte gives an error or another value.
func TestDecodeChangedByte(t *testing.T) {
	for _, v := range append(edgeValues(), randomValues(100)...) {
		b, _ := codec.Encode(v)
		for i := range b {
			for d := 1; d < 256; d++ {
				changed := bytes.Clone(b)
				changed[i] ^= byte(d)
				x, e := codec.Decode(changed)
				if e == api.OK && same(x, v) {
					t.Errorf("% x and % x are decoded as %v", b, changed, v)
				}
			}
		}
	}
}

// P1.5: Decode returns ErrShort for every proper prefix of an encoding, and ErrForm for every encoding with further bytes.
func TestDecodeSelfDelimiting(t *testing.T) {
	for _, v := range append(edgeValues(), randomValues(500)...) {
		b, _ := codec.Encode(v)
		for n := range b {
			checkRefused(t, b[:n], api.ErrShort)
		}
		for c := range 256 {
			checkRefused(t, append(b[:len(b):len(b)], byte(c)), api.ErrForm)
		}
		checkRefused(t, append(b[:len(b):len(b)], b...), api.ErrForm)
	}
}

// P1.5: an encoding that becomes too long with what follows it.
func TestDecodeTooLongAfterEncoding(t *testing.T) {
	b := spelled(text(strings.Repeat("a", api.MaxValue-4)))
	checkRefused(t, append(b, 0), api.ErrForm)
	checkRefused(t, append(b, 0, 0), api.ErrLimit)
}

// P1.1 and P1.5: exactly the bytes with ErrShort can be continued, by some byte or other.
func TestDecodeContinuations(t *testing.T) {
	sequences("\x00\x01\x1e\x1f\x20\x21\x30\x40\xff", 3, func(b []byte) {
		_, e := codec.Decode(b)
		possible := false
		for c := range 256 {
			_, x := codec.Decode(append(b[:len(b):len(b)], byte(c)))
			possible = possible || x != api.ErrForm
		}
		if possible != (e == api.ErrShort) {
			t.Errorf("Decode(% x): %v, but continuations: %v", b, e, possible)
		}
	})
}

// R2: Decode returns memory of its own, and no two byte strings of a value share it.
func TestDecodeMemory(t *testing.T) {
	b := []byte("\x40\x30ab\x00\x00\x30cd\x00\x00\x00")
	v, _ := codec.Decode(b)
	want := list(text("ab"), text("cd"))
	for i := range b {
		b[i] = 9
	}
	if !same(v, want) {
		t.Errorf("after a change of the argument: %v", v)
	}
	_ = append(v.L[0].B, "xyz"...)
	if !same(v, want) {
		t.Errorf("after an append to the first byte string: %v", v)
	}
}
