package merkle_test

import (
	"testing"

	"wagonpool/api"
	"wagonpool/merkle"
)

// P4.1: the chapter's examples.
func TestPathExamples(t *testing.T) {
	x, y := leaf(1), leaf(2)
	l := []api.Digest{x, y, x}
	checkPath(t, l, 2, []api.Digest{merkle.Pad(), merkle.Parent(x, y)}, api.OK)
	checkPath(t, l[:1], 1, nil, api.ErrArg)
	checkPath(t, l, 3, []api.Digest{x, merkle.Parent(x, y)}, api.OK)
	checkPath(t, l, 4, nil, api.ErrArg)
}

// P4.1: all elements and all leaves of padding, and the indices before and after them.
func TestPathSmall(t *testing.T) {
	for _, n := range smallSizes() {
		l := list(n)
		tree := wholeTree(l, depthOf(n))
		leaves := len(tree[0])
		for i := range leaves {
			checkPath(t, l, i, pathIn(tree, i), api.OK)
		}
		for _, i := range append(farNumbers(), -1, leaves, leaves+1, 2*leaves, maxLeaves) {
			checkPath(t, l, i, nil, api.ErrArg)
		}
	}
}

// P4.1: long lists, with indices at the ends of both halves.
func TestPathLong(t *testing.T) {
	for _, n := range []int{1000, 32767, 32768, 32769, 40000, 65535, 65536} {
		l := list(n)
		tree := wholeTree(l, depthOf(n))
		leaves := len(tree[0])
		for _, i := range []int{0, 1, 2, leaves/2 - 1, leaves / 2, n - 1, min(n, leaves-1), leaves - 2, leaves - 1} {
			checkPath(t, l, i, pathIn(tree, i), api.OK)
		}
		for _, i := range []int{-1, leaves, leaves + 1} {
			checkPath(t, l, i, nil, api.ErrArg)
		}
	}
}

// P4.1: a list that is too long, whatever the index is.
func TestPathTooLong(t *testing.T) {
	l := list(2*maxLeaves + 1)
	for _, n := range []int{maxLeaves + 1, maxLeaves + 2, 2 * maxLeaves, 2*maxLeaves + 1} {
		for _, i := range append(farNumbers(), -1, 0, 1, maxLeaves-1, maxLeaves, n-1, n) {
			checkPath(t, l[:n], i, nil, api.ErrLimit)
		}
	}
}

// P4.5: if an element is replaced, its path stays the same, and proves the new element for the new commitment, and nothing else.
func TestUpdateKeepsPath(t *testing.T) {
	for _, n := range append(smallSizes(), 65535, 65536) {
		l := list(n)
		c, _ := merkle.Root(l)
		for _, i := range indicesOf(n) {
			p, _ := merkle.Path(l, i)
			for _, d := range []api.Digest{leaf(-1), padding, {}} {
				other := replaced(l, i, d)
				checkPath(t, other, i, p, api.OK)
				changed, _ := merkle.Root(other)
				checkIncludes(t, "the new element", changed, i, d, p, true)
				checkIncludes(t, "the old element, the new commitment", changed, i, l[i], p, false)
				checkIncludes(t, "the new element, the old commitment", c, i, d, p, false)
			}
		}
	}
}

// indicesOf returns all indices of a short list, and some of a long one.
func indicesOf(n int) (l []int) {
	if n > 1000 {
		return []int{0, n / 2, n - 1}
	}
	for i := range n {
		l = append(l, i)
	}
	return l
}

// P4.5: the path of another leaf changes at one level, at which the replaced element is below the sibling.
func TestUpdateOtherPaths(t *testing.T) {
	for _, n := range []int{2, 3, 4, 5, 8, 13, 16} {
		l := list(n)
		for i := range n {
			other := replaced(l, i, leaf(-1))
			for j := range 1 << depthOf(n) {
				before, _ := merkle.Path(l, j)
				after, _ := merkle.Path(other, j)
				for level := range before {
					if below := i>>level == j>>level^1; below == (before[level] == after[level]) {
						t.Errorf("%d digests, element %d replaced, path of %d, level %d: %v", n, i, j, level, below)
					}
				}
			}
		}
	}
}
