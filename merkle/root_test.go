package merkle_test

import (
	"testing"

	"wagonpool/api"
	"wagonpool/merkle"
)

func checkRoot(t *testing.T, l []api.Digest, want api.Commit, reason api.Errno) {
	t.Helper()
	if c, e := merkle.Root(l); c != want || e != reason {
		t.Errorf("Root of %d digests: %d, %x, %v, want %d, %x, %v", len(l), c.Size, c.Root, e, want.Size, want.Root, reason)
	}
}

// P4.1: roots that were computed elsewhere.
func TestRootKnown(t *testing.T) {
	for n, want := range map[int]string{
		0:     "0609110370eb684e83591a2cfe6bf84c0aad3bfe54fa481e1823c1a3b8f1f9b4",
		1:     "5feceb66ffc86f38d952786c6d696c79c2dbc239dd4e91b46729d73a27fb57e9",
		2:     "8640aa7a5e71cfac203359e475790c90cbe0a0bc9794124805a53eb828add9bf",
		3:     "1975d230c2e6f3dfb273a3761e59346f5f8a21bc3c5c2adcee0bfc9799f1ffd9",
		4:     "3c3331ea169a5cde805db9017c5bcd383d398ea82696d67660aa526557a9b046",
		5:     "f0c6ed47e55d36aebd1374b7443279e4adf4eb643b7f0d88ad50a8651e3c3d85",
		7:     "3b9031b62cc4dc9b17b78fdbb0e2474de64f918f8a3837dc23afd47da44ee214",
		8:     "b68324f121d9e575511a0f9e81ecf4190b6ca11707abe3295c440606fef4af35",
		9:     "0a412e558077984bd3a406e0358fb9cd713cb4917e71119a4358d58074906492",
		1000:  "8c9ad6492919240e05f7fcc944579618449c7c780e0db137dd428d91bd3ea36a",
		32768: "cc08680e48cbc947f2ee5a8306312ab65fd38f001a754c579a8c61007eee7cfa",
		32769: "33e47457cbd02e09f0f426173a11ae4ce0b7591ea05c7d9d897638a9d08ac25a",
		65535: "ea5227e52e9a400f80b51e287a29c9215687c025e9a7c3f530659726565c3857",
		65536: "afea45505fe9cf2b0169cabffa41e86128f9b77b7c1962158ebc5bd0f9cc8aec",
	} {
		checkRoot(t, list(n), api.Commit{Size: n, Root: fromHex(want)}, api.OK)
	}
}

// P4.1: the chapter's examples.
func TestRootExamples(t *testing.T) {
	x, y := leaf(1), leaf(2)
	checkRoot(t, nil, api.Commit{Size: 0, Root: merkle.Pad()}, api.OK)
	checkRoot(t, []api.Digest{x}, api.Commit{Size: 1, Root: x}, api.OK)
	checkRoot(t, []api.Digest{x, y}, api.Commit{Size: 2, Root: merkle.Parent(x, y)}, api.OK)
	checkRoot(t, []api.Digest{x, y, x}, api.Commit{Size: 3, Root: merkle.Parent(merkle.Parent(x, y), merkle.Parent(x, merkle.Pad()))}, api.OK)
}

// P4.1: all numbers of digests up to several powers of two.
func TestRootSizes(t *testing.T) {
	for n := range 300 {
		checkRoot(t, list(n), rootOf(list(n)), api.OK)
	}
}

// P4.1: all lists of few digests, with equal ones, zero digests and padding among them.
func TestRootAllLists(t *testing.T) {
	allLists([]api.Digest{leaf(1), padding, {}}, 6, func(l []api.Digest) {
		checkRoot(t, l, rootOf(l), api.OK)
	})
}

// P4.1: the longest list has a root; a longer one has none.
func TestRootLimit(t *testing.T) {
	l := list(2*maxLeaves + 1)
	checkRoot(t, l[:maxLeaves], rootOf(l[:maxLeaves]), api.OK)
	for _, n := range []int{maxLeaves + 1, maxLeaves + 2, 2 * maxLeaves, 2*maxLeaves + 1} {
		checkRoot(t, l[:n], api.Commit{}, api.ErrLimit)
	}
}

// P4.4: elements equal to Pad at the end of a list leave the root as it is, as long as the depth does not change; the size counts them.
func TestRootPadding(t *testing.T) {
	for n := range 20 {
		c, _ := merkle.Root(list(n))
		for more := range 20 {
			longer, e := merkle.Root(withPadding(list(n), more))
			if longer.Size != n+more || e != api.OK {
				t.Errorf("Root of %d digests and %d of padding: %d, %v", n, more, longer.Size, e)
			}
			if same := depthOf(n) == depthOf(n+more); same != (longer.Root == c.Root) {
				t.Errorf("Root of %d digests: %x; with %d of padding: %x", n, c.Root, more, longer.Root)
			}
		}
	}
}
