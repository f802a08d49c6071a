package frame_test

import (
	"bytes"
	"slices"
	"testing"

	"wagonpool/api"
	"wagonpool/frame"
)

// behind returns bytes equal to b, which are the beginning of longer ones, and these.
func behind(b []byte) (copied, memory []byte) {
	memory = slices.Concat(b, []byte("\x7d\x7e behind \x7e\x7d"))
	return memory[:len(b)], memory
}

// spoil overwrites bytes and the room behind them.
func spoil(b []byte) {
	b = b[:cap(b)]
	for i := range b {
		b[i] = 0xa5
	}
}

// R2: no function writes to its arguments or behind them, and no result shares memory with them.
func TestArgumentsUnchanged(t *testing.T) {
	for _, b := range slices.Concat(streams(), contents()) {
		argument, memory := behind(b)
		want := slices.Clone(memory)
		unchanged := func(what string, memory, want []byte) {
			t.Helper()
			if !bytes.Equal(memory, want) {
				t.Fatalf("%s of %x (%d bytes) changes the memory of an argument", what, begin(b), len(b))
			}
		}
		frame.Crc(argument)
		f, _ := frame.Make(argument)
		spoil(f)
		unchanged("Make", memory, want)
		for _, rest := range [][]byte{nil, {0}, summed([]byte("123456789")), pattern(40), pattern(mostRest - 1), pattern(mostRest)} {
			for i := range 8 {
				d := api.Deframer{In: i&1 > 0, Escape: i&2 > 0, Bad: i&4 > 0}
				var restMemory []byte
				d.Rest, restMemory = behind(rest)
				wantRest := slices.Clone(restMemory)
				x, l, _ := frame.Feed(d, argument)
				unchanged("Feed", restMemory, wantRest)
				for _, content := range append(l, x.Rest) {
					spoil(content)
				}
				unchanged("Feed", memory, want)
				unchanged("Feed", restMemory, wantRest)
			}
		}
	}
}

// R2: results stay as they are when the arguments change, or when what another call returned is overwritten.
func TestResultsUnchanged(t *testing.T) {
	for _, b := range streams() {
		for _, rest := range [][]byte{nil, summed([]byte("123456789")), pattern(40)} {
			d := api.Deframer{In: true, Rest: slices.Clone(rest)}
			argument := slices.Clone(b)
			x, l, bad := frame.Feed(d, argument)
			other, others, _ := frame.Feed(d, argument)
			f, _ := frame.Make(argument)
			wantFrame := slices.Clone(f)
			g, _ := frame.Make(argument)
			for _, c := range append(others, other.Rest, argument, d.Rest, g) {
				spoil(c)
			}
			want, contents, wantBad := fed(api.Deframer{In: true, Rest: rest}, b)
			checkResult(t, d, b, x, want, l, contents, bad, wantBad)
			if !bytes.Equal(f, wantFrame) {
				t.Fatalf("Make of %x (%d bytes): %x, but then %x", begin(b), len(b), begin(wantFrame), begin(f))
			}
		}
	}
}

// R2: no two parts of one result share memory.
func TestPartsApart(t *testing.T) {
	for _, b := range streams() {
		stream := append(slices.Clone(b), "\x7ebegun"...)
		n := len(fedContents(stream))
		for i := range n + 1 {
			x, l, bad := frame.Feed(api.Deframer{}, stream)
			want, contents, wantBad := fed(api.Deframer{}, stream)
			if i < n {
				spoil(l[i])
				l[i] = contents[i]
			} else {
				spoil(x.Rest)
				x.Rest = want.Rest
			}
			checkResult(t, api.Deframer{}, stream, x, want, l, contents, bad, wantBad)
		}
	}
}

// fedContents returns the contents of a stream.
func fedContents(stream []byte) [][]byte {
	_, l, _ := fed(api.Deframer{}, stream)
	return l
}

// R2: a state may be used several times, with another continuation each time.
func TestStateUsedTwice(t *testing.T) {
	for _, begun := range []string{"\x7e", "\x7e1", "\x7e123456", "\x7e123456789\xcb\xf4\x39", "\x7e\x7d", "\x7e12\x7d", "12"} {
		d, _, _ := frame.Feed(api.Deframer{}, []byte(begun))
		want := api.Deframer{Rest: slices.Clone(d.Rest), In: d.In, Escape: d.Escape, Bad: d.Bad}
		states := []api.Deframer{}
		continuations := []string{"abc", "xyz", "\x26\x7e", "\x7e", "\x7d", "\x5e\x5e", "", "abcdefghijklmnopqrstuvwxyz", "\x7e\x7ezz"}
		for _, c := range continuations {
			x, _, _ := frame.Feed(d, []byte(c))
			states = append(states, x)
		}
		for i, c := range continuations {
			x, _, _ := fed(want, []byte(c))
			if !same(states[i], x) || !same(d, want) {
				t.Fatalf("%q, then %q: the Rest %x, want %x; that of the first state is %x, and was %x", begun, c, states[i].Rest, x.Rest, d.Rest, want.Rest)
			}
		}
	}
}

// R3: nil and no bytes are the same.
func TestNil(t *testing.T) {
	for _, none := range [][]byte{nil, {}, make([]byte, 0, 5)} {
		checkCrc(t, none, 0)
		checkMake(t, none, []byte{flag, 0, 0, 0, 0, flag})
		for i := range 8 {
			d := api.Deframer{Rest: none, In: i&1 > 0, Escape: i&2 > 0, Bad: i&4 > 0}
			checkFed(t, d, none, d, 0)
			checkFeed(t, d, []byte("a\x7e\x00\x00\x00\x00\x7eb"))
		}
	}
}

// R6: equal calls return equal results, whatever was called in between.
func TestEqualCalls(t *testing.T) {
	for _, d := range states() {
		for _, b := range [][]byte{nil, []byte("a\x7d\x5e\x7e\x7d"), []byte("\x7e\x00\x00\x00\x00\x7e1"), {escape}} {
			x, l, bad := frame.Feed(d, b)
			frame.Feed(x, b)
			frame.Feed(waiting(), []byte("other bytes\x7e"))
			y, m, again := frame.Feed(api.Deframer{Rest: slices.Clone(d.Rest), In: d.In, Escape: d.Escape, Bad: d.Bad}, slices.Clone(b))
			checkResult(t, d, b, y, x, m, l, again, bad)
		}
	}
	for _, content := range contents() {
		f, c := made(t, content), frame.Crc(content)
		frame.Make([]byte("other bytes"))
		checkMake(t, slices.Clone(content), f)
		checkCrc(t, slices.Clone(content), c)
	}
}

// R1: with an error no frame is returned, and contents of any length have a checksum.
func TestZeroWithError(t *testing.T) {
	for n := mostContent - 1; n <= mostContent+3; n++ {
		for _, content := range [][]byte{make([]byte, n), bytes.Repeat([]byte{escape}, n)} {
			f, e := frame.Make(content)
			if n <= mostContent && (e != api.OK || len(f) == 0) || n > mostContent && (e != api.ErrLimit || len(f) > 0) {
				t.Fatalf("Make of %d bytes: %x (%d bytes), %v", n, begin(f), len(f), e)
			}
		}
	}
}
