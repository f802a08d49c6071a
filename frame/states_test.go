package frame_test

import (
	"bytes"
	"slices"
	"testing"

	"wagonpool/api"
)

// P10.1: a flag begins a frame, whatever the state; unless a frame has begun, it ends none.
func TestFlagOutside(t *testing.T) {
	for _, d := range states() {
		d.In = false
		checkFed(t, d, []byte{flag}, waiting(), 0)
		checkFed(t, d, []byte{flag, flag, 0, 0, 0, 0, flag}, waiting(), 0, nil)
	}
}

// P10.1: a flag in every kind of state in which a frame has begun.
func TestFlagInside(t *testing.T) {
	sum := summed([]byte("123456789"))
	most, tooMany := summed(pattern(mostContent)), summed(pattern(mostContent+1))
	for _, c := range []struct {
		rest        []byte
		escape, bad bool
		damaged     int
		contents    [][]byte
	}{
		{nil, false, false, 0, nil},
		{[]byte{}, false, false, 0, nil},
		{nil, true, false, 1, nil},
		{nil, false, true, 1, nil},
		{nil, true, true, 1, nil},
		{[]byte{0}, false, false, 1, nil},
		{[]byte{flag}, false, false, 1, nil},
		{[]byte{0, 0, 0}, false, false, 1, nil},
		{[]byte{0, 0, 0, 0}, false, false, 0, [][]byte{nil}},
		{[]byte{0, 0, 0, 0}, true, false, 1, nil},
		{[]byte{0, 0, 0, 0}, false, true, 1, nil},
		{[]byte{0, 0, 0, 0}, true, true, 1, nil},
		{[]byte{0, 0, 0, 1}, false, false, 1, nil},
		{[]byte{1, 0, 0, 0}, false, false, 1, nil},
		{sum, false, false, 0, [][]byte{[]byte("123456789")}},
		{sum, true, false, 1, nil},
		{sum, false, true, 1, nil},
		{sum, true, true, 1, nil},
		{sum[1:], false, false, 1, nil},
		{sum[:len(sum)-1], false, false, 1, nil},
		{summed([]byte{flag, escape}), false, false, 0, [][]byte{{flag, escape}}},
		{summed(pattern(mostContent - 1)), false, false, 0, [][]byte{pattern(mostContent - 1)}},
		{most, false, false, 0, [][]byte{pattern(mostContent)}},
		{most, true, false, 1, nil},
		{most, false, true, 1, nil},
		{pattern(mostRest - 1), false, false, 1, nil},
		{pattern(mostRest), false, false, 1, nil},
		{tooMany, false, false, 1, nil},
		{tooMany, true, true, 1, nil},
		{summed(pattern(mostContent + 2)), false, false, 1, nil},
		{summed(pattern(20000)), false, false, 1, nil},
	} {
		d := api.Deframer{In: true, Rest: c.rest, Escape: c.escape, Bad: c.bad}
		checkFed(t, d, []byte{flag}, waiting(), c.damaged, c.contents...)
		checkFed(t, d, []byte{flag, flag}, waiting(), c.damaged, c.contents...)
	}
}

// P10.1: no bytes, in any state; other bytes than flags where they have no effect.
func TestNoEffect(t *testing.T) {
	for _, d := range states() {
		checkFed(t, d, nil, d, 0)
		checkFed(t, d, []byte{}, d, 0)
		if d.In && !d.Bad {
			continue
		}
		for _, b := range words(3, escape, 0, 'a', 0x5e) {
			checkFed(t, d, b, d, 0)
		}
		checkFed(t, d, bytes.Repeat([]byte("abc"), mostRest), d, 0)
	}
}

// P10.1: other bytes than flags in a frame, up to its greatest length and beyond it.
func TestBytesInside(t *testing.T) {
	for _, rest := range rests() {
		begun, escaping := api.Deframer{In: true, Rest: rest}, api.Deframer{In: true, Rest: rest, Escape: true}
		with := func(c byte) api.Deframer {
			if len(rest) >= mostRest {
				return api.Deframer{In: true, Bad: true}
			}
			return api.Deframer{In: true, Rest: slices.Concat(rest, []byte{c})}
		}
		checkFed(t, begun, []byte{escape}, escaping, 0)
		checkFed(t, begun, []byte{escape, escape}, with(0x5d), 0)
		checkFed(t, escaping, []byte{escape}, with(0x5d), 0)
		checkFed(t, escaping, []byte{0x5e}, with(flag), 0)
		checkFed(t, escaping, []byte{0x5d}, with(escape), 0)
		checkFed(t, escaping, []byte{0}, with(0x20), 0)
		for _, c := range []byte{0, 1, 0x20, 0x5d, 0x5e, 0x7c, 0x7f, 0xff} {
			checkFed(t, begun, []byte{c}, with(c), 0)
			checkFed(t, begun, []byte{escape, c}, with(c^0x20), 0)
			checkFed(t, escaping, []byte{c}, with(c^0x20), 0)
		}
	}
}

// P10.1: all short streams in all states, as the second spelling reads them.
func TestStates(t *testing.T) {
	for _, d := range states() {
		n := 5
		if len(d.Rest) > 1000 {
			n = 3
		}
		for _, b := range words(n, flag, escape, 0, 0x5e) {
			checkFeed(t, d, b)
		}
		for _, b := range streams() {
			checkFeed(t, d, b)
		}
	}
}
