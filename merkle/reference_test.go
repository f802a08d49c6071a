package merkle_test

import (
	"crypto/sha256"
	"encoding/hex"
	"math"
	"math/rand"
	"strconv"
	"testing"

	"wagonpool/api"
	"wagonpool/merkle"
)

// This file spells the chapter out a second time, with the standard library's hash function and without any shortcut, and contains the samples of the tests.

const maxLeaves = 65536

// padding is the digest of a leaf after the end of a list, as it was computed elsewhere.
var padding = fromHex("0609110370eb684e83591a2cfe6bf84c0aad3bfe54fa481e1823c1a3b8f1f9b4")

func fromHex(s string) api.Digest {
	b, err := hex.DecodeString(s)
	if err != nil {
		panic(err)
	}
	return api.Digest(b)
}

func parentOf(left, right api.Digest) api.Digest {
	return sha256.Sum256([]byte("\x04node" + string(left[:]) + string(right[:])))
}

// element returns the digest of l with an index, or the padding behind them.
func element(l []api.Digest, i int) api.Digest {
	if i < len(l) {
		return l[i]
	}
	return padding
}

// depthOf returns the depth of a tree over n leaves.
func depthOf(n int) int {
	for d, leaves := 0, 1; ; d, leaves = d+1, 2*leaves {
		if leaves >= n {
			return d
		}
	}
}

// wholeTree returns all nodes of the levels 0 to top, where level 0 has 2^top nodes.
func wholeTree(l []api.Digest, top int) [][]api.Digest {
	levels := [][]api.Digest{make([]api.Digest, 1<<top)}
	for i := range levels[0] {
		levels[0][i] = element(l, i)
	}
	for range top {
		below := levels[len(levels)-1]
		var level []api.Digest
		for i := 0; i < len(below); i += 2 {
			level = append(level, parentOf(below[i], below[i+1]))
		}
		levels = append(levels, level)
	}
	return levels
}

// rootOf returns the commitment to l.
func rootOf(l []api.Digest) api.Commit {
	d := depthOf(len(l))
	return api.Commit{Size: len(l), Root: wholeTree(l, d)[d][0]}
}

// pathIn returns the path of leaf i in a whole tree.
func pathIn(tree [][]api.Digest, i int) (p []api.Digest) {
	for _, level := range tree[:len(tree)-1] {
		if i%2 == 0 {
			p = append(p, level[i+1])
		} else {
			p = append(p, level[i-1])
		}
		i /= 2
	}
	return p
}

// included spells Includes out.
func included(c api.Commit, i int, leaf api.Digest, p []api.Digest) bool {
	if c.Size < 0 || c.Size > maxLeaves {
		return false
	}
	d := depthOf(c.Size)
	if i < 0 || i > 1<<d-1 || len(p) != d {
		return false
	}
	x := leaf
	for _, sibling := range p {
		if i%2 == 0 {
			x = parentOf(x, sibling)
		} else {
			x = parentOf(sibling, x)
		}
		i /= 2
	}
	return x == c.Root
}

// firstOf spells First out.
func firstOf(a, b []api.Digest) int {
	for i := range max(len(a), len(b)) {
		if element(a, i) != element(b, i) {
			return i
		}
	}
	return -1
}

// leaf returns the digest of the decimal digits of i: a leaf with an index, or one that occurs in no list.
func leaf(i int) api.Digest {
	return sha256.Sum256([]byte(strconv.Itoa(i)))
}

// list returns n leaves, of which no two are equal.
func list(n int) []api.Digest {
	l := make([]api.Digest, n)
	for i := range l {
		l[i] = leaf(i)
	}
	return l
}

// withPadding returns a copy of l with n elements more that are equal to the padding.
func withPadding(l []api.Digest, n int) []api.Digest {
	longer := make([]api.Digest, len(l), len(l)+n)
	copy(longer, l)
	for range n {
		longer = append(longer, padding)
	}
	return longer
}

// replaced returns a copy of l with another element.
func replaced(l []api.Digest, i int, d api.Digest) []api.Digest {
	other := append([]api.Digest(nil), l...)
	other[i] = d
	return other
}

// smallSizes returns numbers of leaves of which all indices can be tested.
func smallSizes() (l []int) {
	for n := range 36 {
		l = append(l, n)
	}
	return append(l, 63, 64, 65, 100)
}

// allLists calls f with all lists of up to n elements of some digests.
func allLists(of []api.Digest, n int, f func(l []api.Digest)) {
	f(nil)
	if n == 0 {
		return
	}
	for _, d := range of {
		allLists(of, n-1, func(l []api.Digest) {
			f(append([]api.Digest{d}, l...))
		})
	}
}

// farNumbers returns numbers that are far out of every range.
func farNumbers() []int {
	return []int{math.MinInt, math.MinInt + 1, -1 << 32, -1 << 16, -65, -64, -17, -2, 1 << 17, 1 << 32, 1 << 48, 1<<62 + 1, math.MaxInt - 1, math.MaxInt}
}

func randomDigest(r *rand.Rand) (d api.Digest) {
	r.Read(d[:])
	return d
}

func checkDigest(t *testing.T, what string, got, want api.Digest) {
	t.Helper()
	if got != want {
		t.Fatalf("%s: %x, want %x", what, got, want)
	}
}

func checkPath(t *testing.T, l []api.Digest, i int, want []api.Digest, reason api.Errno) {
	t.Helper()
	p, e := merkle.Path(l, i)
	if e != reason || len(p) != len(want) {
		t.Fatalf("Path of %d digests and %d: %d digests, %v, want %d, %v", len(l), i, len(p), e, len(want), reason)
	}
	for level, d := range p {
		checkDigest(t, "Path of "+strconv.Itoa(len(l))+" digests and "+strconv.Itoa(i)+", level "+strconv.Itoa(level), d, want[level])
	}
}

// checkIncludes, like the other checks, ends the test at the first wrong result: if one is wrong, thousands of them are.
func checkIncludes(t *testing.T, what string, c api.Commit, i int, leaf api.Digest, p []api.Digest, want bool) {
	t.Helper()
	if ok := merkle.Includes(c, i, leaf, p); ok != want {
		t.Fatalf("%s: Includes of size %d, index %d and %d digests: %v", what, c.Size, i, len(p), ok)
	}
}
