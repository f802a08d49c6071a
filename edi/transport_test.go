package edi_test

import (
	"strings"
	"testing"

	"wagonpool/api"
	"wagonpool/edi"
	"wagonpool/frame"
)

// frameOf returns the frame of the message of an item.
func frameOf(t *testing.T, it api.Item) []byte {
	t.Helper()
	s, e := edi.Format(it)
	if e != api.OK {
		t.Fatalf("Format of %s: %v", shown(it), e)
	}
	f, e := frame.Make([]byte(s))
	if e != api.OK {
		t.Fatalf("Make of %q: %v", begin(s), e)
	}
	return f
}

// checkArrival checks that items arrive from a stream that is divided into parts.
func checkArrival(t *testing.T, items []api.Item, parts ...[]byte) {
	t.Helper()
	var d api.Deframer
	var l []api.Item
	for _, part := range parts {
		next, contents, bad := frame.Feed(d, part)
		if bad > 0 {
			t.Fatalf("%d damaged frames", bad)
		}
		d = next
		for _, content := range contents {
			it, e := edi.Parse(string(content))
			if e != api.OK {
				t.Fatalf("Parse of %q: %v", begin(string(content)), e)
			}
			l = append(l, it)
		}
	}
	if len(l) != len(items) {
		t.Fatalf("%d items arrive instead of %d", len(l), len(items))
	}
	for i := range l {
		if !same(l[i], items[i]) {
			t.Fatalf("%s arrives instead of %s", shown(l[i]), shown(items[i]))
		}
	}
}

// transported returns items of all kinds whose messages fit a frame.
func transported() (l []api.Item) {
	for _, it := range append(anyItems(), randomItems(41, 200)...) {
		if len(messageOf(it)) <= 8192 {
			l = append(l, it)
		}
	}
	return l
}

// P11.5: a frame that arrives whole, byte by byte, and in two parts at every division.
func TestTransport(t *testing.T) {
	for _, it := range transported() {
		f, items := frameOf(t, it), []api.Item{it}
		checkArrival(t, items, f)
		var bytes [][]byte
		for i := range f {
			bytes = append(bytes, f[i:i+1])
			if len(f) < 1000 || i%37 == 0 {
				checkArrival(t, items, f[:i], f[i:])
			}
		}
		checkArrival(t, items, bytes...)
	}
}

// P11.5: the longest messages of valid items, at every division.
func TestTransportLong(t *testing.T) {
	p := examplePool()
	for _, text := range []string{strings.Repeat("\x7e", 2000), strings.Repeat("\xff", 2000), strings.Repeat("~}", 1000)} {
		it := greatestItems()[10]
		it.Text = text
		checkItem(t, p, it, api.OK)
		f := frameOf(t, it)
		for i := range f {
			checkArrival(t, []api.Item{it}, f[:i], f[i:])
		}
	}
}

// P11.5: all messages in one stream, in parts of different lengths.
func TestTransportStream(t *testing.T) {
	var stream []byte
	for _, it := range transported() {
		stream = append(stream, frameOf(t, it)...)
	}
	for _, n := range []int{1, 2, 3, 7, 64, 1000, len(stream)} {
		var parts [][]byte
		for rest := stream; len(rest) > 0; rest = rest[min(n, len(rest)):] {
			parts = append(parts, rest[:min(n, len(rest))])
		}
		checkArrival(t, transported(), parts...)
	}
}
