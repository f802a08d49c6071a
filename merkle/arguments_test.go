package merkle_test

import (
	"slices"
	"testing"

	"wagonpool/api"
	"wagonpool/merkle"
)

// R2: no function writes to its arguments or behind them, and a path shares no memory with the list.
func TestArgumentsUnchanged(t *testing.T) {
	for _, n := range []int{0, 1, 2, 3, 4, 5, 7, 8} {
		memory, want := list(n+20), list(n+20)
		l := memory[:n]
		merkle.Node(l, 3, 0)
		c, _ := merkle.Root(l)
		merkle.First(l, memory[:n+1])
		for i := range 1 << depthOf(n) {
			p, _ := merkle.Path(l, i)
			kept := slices.Clone(p)
			merkle.Includes(c, i, element(l, i), p)
			merkle.Path(l, i)
			if !slices.Equal(p, kept) {
				t.Errorf("a path of %d digests has changed", n)
			}
			clear(p[:cap(p)])
		}
		if !slices.Equal(memory, want) {
			t.Errorf("memory of an argument of %d digests has changed", n)
		}
	}
}

// R3: nil is an empty list and an empty path.
func TestNil(t *testing.T) {
	none := []api.Digest{}
	for level := range 17 {
		x, ok := merkle.Node(nil, level, 0)
		y, okEmpty := merkle.Node(none, level, 0)
		if x != y || !ok || !okEmpty {
			t.Errorf("level %d: %x, %x", level, x, y)
		}
	}
	checkRoot(t, none, api.Commit{Root: padding}, api.OK)
	for _, l := range [][]api.Digest{nil, none} {
		checkPath(t, l, 0, nil, api.OK)
		checkPath(t, l, 1, nil, api.ErrArg)
		checkFirst(t, l, nil, -1)
		checkFirst(t, l, none, -1)
		checkIncludes(t, "no leaves", api.Commit{Root: padding}, 0, padding, l, true)
		checkIncludes(t, "no leaves, another digest", api.Commit{Root: padding}, 0, leaf(0), l, false)
		checkIncludes(t, "one leaf", api.Commit{Size: 1, Root: leaf(0)}, 0, leaf(0), l, true)
	}
}

// R6: equal calls return equal results, whatever was called in between.
func TestEqualCalls(t *testing.T) {
	l := list(11)
	c, _ := merkle.Root(l)
	p, _ := merkle.Path(l, 10)
	for n := range 30 {
		merkle.Root(list(n))
		merkle.Path(list(n), 0)
		merkle.Node(list(n), 4, 1)
		checkRoot(t, l, c, api.OK)
		checkPath(t, l, 10, p, api.OK)
		checkDigest(t, "Pad", merkle.Pad(), padding)
	}
}
