package merkle_test

import (
	"math/rand"
	"slices"
	"testing"

	"wagonpool/api"
	"wagonpool/merkle"
)

// P4.1: the chapter's examples.
func TestIncludesExamples(t *testing.T) {
	x := leaf(1)
	checkIncludes(t, "one digest", api.Commit{Size: 1, Root: x}, 0, x, nil, true)
	checkIncludes(t, "size 2", api.Commit{Size: 2, Root: x}, 0, x, nil, false)
}

// P4.2 and P4.3: each element and each leaf of padding is proved by its path; no other leaf is, and no other index unless it has the same leaf and the same path.
func TestIncludesSmall(t *testing.T) {
	for _, n := range smallSizes() {
		l := list(n)
		c, _ := merkle.Root(l)
		var paths [][]api.Digest
		for i := range 1 << depthOf(n) {
			p, _ := merkle.Path(l, i)
			checkIncludes(t, "Path", c, i, element(l, i), p, true)
			checkIncludes(t, "another leaf", c, i, leaf(-1), p, false)
			checkIncludes(t, "a zero leaf", c, i, api.Digest{}, p, false)
			checkIncludes(t, "another root", api.Commit{Size: n, Root: leaf(-1)}, i, element(l, i), p, false)
			paths = append(paths, p)
		}
		for i, p := range paths {
			for j, other := range paths {
				// Leaves of padding may have the same path.
				same := element(l, i) == element(l, j) && slices.Equal(p, other)
				checkIncludes(t, "another index", c, j, element(l, i), p, same)
			}
		}
	}
}

// P4.2: long lists.
func TestIncludesLong(t *testing.T) {
	for _, n := range []int{1000, 32768, 32769, 65535, 65536} {
		l := list(n)
		c, _ := merkle.Root(l)
		leaves := 1 << depthOf(n)
		for _, i := range []int{0, 1, leaves/2 - 1, leaves / 2, n - 1, leaves - 1} {
			p, e := merkle.Path(l, i)
			if e != api.OK {
				t.Fatal(e)
			}
			checkIncludes(t, "Path", c, i, element(l, i), p, true)
			bothPadding := i&^1 >= n
			checkIncludes(t, "the neighbour", c, i^1, element(l, i), p, bothPadding)
			checkIncludes(t, "the other half", c, i^leaves/2, element(l, i), p, false)
			checkIncludes(t, "another leaf", c, i, leaf(-1), p, false)
		}
	}
}

// P4.1: sizes, indices and numbers of digests that are out of range, although the digests would lead to the root.
func TestIncludesRange(t *testing.T) {
	for _, n := range []int{0, 1, 2, 3, 4, 5, 8, 65535, 65536} {
		l := list(n)
		c, _ := merkle.Root(l)
		p, _ := merkle.Path(l, 0)
		x, leaves := element(l, 0), 1<<depthOf(n)
		for _, i := range append(farNumbers(), -1, leaves, leaves+1, 2*leaves, -leaves) {
			checkIncludes(t, "index", c, i, x, p, false)
		}
		for _, size := range append(farNumbers(), -1, maxLeaves+1, 2*maxLeaves) {
			checkIncludes(t, "size", api.Commit{Size: size, Root: c.Root}, 0, x, p, false)
			checkIncludes(t, "size, without digests", api.Commit{Size: size, Root: x}, 0, x, nil, false)
		}
		longer := append(slices.Clone(p), padding)
		checkIncludes(t, "a digest more", c, 0, x, longer, false)
		checkIncludes(t, "a digest more, and its root", api.Commit{Size: n, Root: parentOf(c.Root, padding)}, 0, x, longer, false)
		if n > 1 {
			checkIncludes(t, "a digest less", c, 0, x, p[:len(p)-1], false)
			checkIncludes(t, "without the first digest", c, 0, parentOf(x, p[0]), p[1:], false)
			checkIncludes(t, "no digests", api.Commit{Size: n, Root: x}, 0, x, nil, false)
		}
	}
}

// P4.1: of the size, only the depth counts.
func TestIncludesSizes(t *testing.T) {
	for _, n := range []int{0, 1, 2, 3, 4, 5, 8, 9, 16} {
		l := list(n)
		c, _ := merkle.Root(l)
		for i := range 1 << depthOf(n) {
			p, _ := merkle.Path(l, i)
			for size := range 40 {
				checkIncludes(t, "another size", api.Commit{Size: size, Root: c.Root}, i, element(l, i), p, depthOf(size) == depthOf(n))
			}
		}
	}
}

// P4.3: a path is accepted only if it is the one of the element, whichever leaves and digests it is made of.
func TestIncludesSound(t *testing.T) {
	x, y := leaf(1), leaf(2)
	digests := []api.Digest{x, y, padding, parentOf(x, y), parentOf(x, padding), parentOf(padding, padding)}
	var paths [][]api.Digest
	allLists(digests, 3, func(p []api.Digest) { paths = append(paths, p) })
	allLists([]api.Digest{x, y, padding}, 4, func(l []api.Digest) {
		c, _ := merkle.Root(l)
		tree := wholeTree(l, depthOf(len(l)))
		for i := -1; i <= 4; i++ {
			var want []api.Digest
			exists := i >= 0 && i < len(tree[0])
			if exists {
				want = pathIn(tree, i)
				checkPath(t, l, i, want, api.OK)
			}
			for _, p := range paths {
				for _, d := range digests {
					checkIncludes(t, "sound", c, i, d, p, exists && d == element(l, i) && slices.Equal(p, want))
				}
			}
		}
	})
}

// P4.3: each bit of the leaf, of each digest of the path and of the root counts, and so does the order of the path.
func TestIncludesBits(t *testing.T) {
	for _, n := range []int{1, 2, 3, 5, 8, 1000} {
		l := list(n)
		c, _ := merkle.Root(l)
		for _, i := range []int{0, n / 2, n - 1} {
			p, _ := merkle.Path(l, i)
			for bit := range 256 {
				flip := func(d api.Digest) api.Digest {
					d[bit/8] ^= 1 << (bit % 8)
					return d
				}
				checkIncludes(t, "a bit of the leaf", c, i, flip(l[i]), p, false)
				checkIncludes(t, "a bit of the root", api.Commit{Size: n, Root: flip(c.Root)}, i, l[i], p, false)
				for level := range p {
					checkIncludes(t, "a bit of the path", c, i, l[i], replaced(p, level, flip(p[level])), false)
				}
			}
			for level := 1; level < len(p); level++ {
				swapped := slices.Clone(p)
				swapped[level-1], swapped[level] = p[level], p[level-1]
				checkIncludes(t, "swapped digests", c, i, l[i], swapped, false)
			}
		}
	}
}

// P4.1: what nobody chose: roots of climbs along random paths, some of them with something changed.
func TestIncludesRandom(t *testing.T) {
	r := rand.New(rand.NewSource(2))
	accepted := 0
	for range 4000 {
		size := r.Intn(1<<r.Intn(17) + 1)
		i := r.Intn(1 << depthOf(size))
		leaf, p := randomDigest(r), make([]api.Digest, depthOf(size))
		for level := range p {
			p[level] = randomDigest(r)
		}
		c := api.Commit{Size: size, Root: climbed(i, leaf, p)}
		switch r.Intn(8) {
		case 0:
			i ^= 1 << r.Intn(17)
		case 1:
			c.Size = r.Intn(maxLeaves + 10)
		case 2:
			p = append(p, randomDigest(r))
		case 3:
			leaf = randomDigest(r)
		}
		want := included(c, i, leaf, p)
		if want {
			accepted++
		}
		checkIncludes(t, "random", c, i, leaf, p, want)
	}
	if accepted < 1000 || accepted > 3000 {
		t.Errorf("%d of 4000 paths are accepted: the samples do not test both results", accepted)
	}
}

// climbed returns the root to which a path leads.
func climbed(i int, x api.Digest, p []api.Digest) api.Digest {
	for level, sibling := range p {
		if i/(1<<level)%2 == 0 {
			x = parentOf(x, sibling)
		} else {
			x = parentOf(sibling, x)
		}
	}
	return x
}
