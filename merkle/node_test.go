package merkle_test

import (
	"math/rand"
	"testing"

	"wagonpool/api"
	"wagonpool/merkle"
)

// P4.1: digests that were computed elsewhere.
func TestPadAndParentKnown(t *testing.T) {
	checkDigest(t, "Pad", merkle.Pad(), padding)
	var up, down api.Digest
	for i := range up {
		up[i], down[i] = byte(i), byte(255-i)
	}
	for _, c := range []struct {
		left, right api.Digest
		want        string
	}{
		{api.Digest{}, api.Digest{}, "1c01c66e9bfd1ad23b0cee2e481ab5e8de510a60e0f2370d63e4b34063cc37c3"},
		{up, down, "5125e3ba55905a8318df65b6b90660a33be3c276faec0ebb6cc95c153c623cee"},
		{down, up, "40090fd997edb48507a0cb1f57f19d103998336a4f772c0969bfb8088869a3d2"},
		{padding, padding, "2d1c4c7d960a4dbabf02e00eeef7034f98b1cadfbc40bcffc6fc191ba50a689e"},
	} {
		checkDigest(t, "Parent", merkle.Parent(c.left, c.right), fromHex(c.want))
	}
}

// P4.1: each bit of both children counts, and so does their order.
func TestParentBits(t *testing.T) {
	left, right := leaf(1), leaf(2)
	seen := map[api.Digest]bool{}
	check := func(left, right api.Digest) {
		d := merkle.Parent(left, right)
		checkDigest(t, "Parent", d, parentOf(left, right))
		if seen[d] {
			t.Errorf("%x is the parent of two pairs", d)
		}
		seen[d] = true
	}
	check(left, right)
	check(right, left)
	check(left, left)
	for i := range 256 {
		l, r := left, right
		l[i/8] ^= 1 << (i % 8)
		r[i/8] ^= 1 << (i % 8)
		check(l, right)
		check(left, r)
	}
}

// P4.1: the least d with 2^d >= n, and -1 outside the range.
func TestDepth(t *testing.T) {
	for n, want := range map[int]int{0: 0, 1: 0, 2: 1, 3: 2, 4: 2, 5: 3, 8: 3, 9: 4, 256: 8, 257: 9, 32768: 15, 32769: 16, 65535: 16, 65536: 16, -1: -1, 65537: -1, 131072: -1} {
		if d := merkle.Depth(n); d != want {
			t.Errorf("Depth(%d): %d, want %d", n, d, want)
		}
	}
	for _, n := range farNumbers() {
		if d := merkle.Depth(n); d != -1 {
			t.Errorf("Depth(%d): %d", n, d)
		}
	}
	for n := range maxLeaves + 1 {
		if d := merkle.Depth(n); d != depthOf(n) {
			t.Fatalf("Depth(%d): %d, want %d", n, d, depthOf(n))
		}
	}
}

// P4.1: every node of a whole tree, for short and long lists.
func TestNodeWholeTrees(t *testing.T) {
	for _, n := range []int{0, 1, 2, 3, 4, 5, 1000, 32769, 65535, 65536} {
		l := list(n)
		for level, nodes := range wholeTree(l, 16) {
			for k, want := range nodes {
				if d, ok := merkle.Node(l, level, k); d != want || !ok {
					t.Fatalf("Node of %d digests, level %d, %d: %x, %v, want %x", n, level, k, d, ok, want)
				}
			}
		}
	}
}

// P4.1: at each level the first and the last node, and the numbers before and after them; and levels before and after all.
func TestNodeRange(t *testing.T) {
	for _, n := range []int{0, 1, 2, 3, 4, 5, 100, 65535, 65536} {
		l := list(n)
		tree := wholeTree(l, 16)
		for level := -2; level <= 18; level++ {
			for k := range edgesOfLevel(level) {
				d, ok := merkle.Node(l, level, k)
				exists := level >= 0 && level <= 16 && k >= 0 && k < len(tree[level])
				if ok != exists || !ok && d != (api.Digest{}) || ok && d != tree[level][k] {
					t.Errorf("Node of %d digests, level %d, %d: %x, %v", n, level, k, d, ok)
				}
			}
		}
	}
}

// edgesOfLevel returns numbers around the first and the last node of a level, and numbers far away from both.
func edgesOfLevel(level int) map[int]bool {
	set := map[int]bool{}
	for _, k := range farNumbers() {
		set[k] = true
	}
	for _, end := range []int{0, 1 << min(max(16-level, 0), 16)} {
		for k := end - 2; k <= end+2; k++ {
			set[k] = true
		}
	}
	return set
}

// P4.1: levels that are far out of range, also those whose number of nodes cannot be computed.
func TestNodeLevels(t *testing.T) {
	for _, level := range append(farNumbers(), -1, 17, 63, 64, 65) {
		for _, k := range []int{-1, 0, 1, 65535} {
			if d, ok := merkle.Node(list(3), level, k); ok || d != (api.Digest{}) {
				t.Errorf("Node of level %d, %d: %x, %v", level, k, d, ok)
			}
		}
	}
}

// P4.1: a list of MaxLeaves digests has nodes, a longer one has none.
func TestNodeTooLong(t *testing.T) {
	l := list(2*maxLeaves + 1)
	for _, n := range []int{maxLeaves + 1, maxLeaves + 2, 2 * maxLeaves, 2*maxLeaves + 1} {
		for level := -1; level <= 17; level++ {
			for _, k := range []int{-1, 0, 1, 1<<max(16-level, 0) - 1, maxLeaves} {
				if d, ok := merkle.Node(l[:n], level, k); ok || d != (api.Digest{}) {
					t.Errorf("Node of %d digests, level %d, %d: %x, %v", n, level, k, d, ok)
				}
			}
		}
	}
}

// P4.4: every node is the parent of its two children.
func TestNodeChildren(t *testing.T) {
	r := rand.New(rand.NewSource(1))
	for _, n := range []int{0, 1, 2, 3, 4, 5, 300, 65535} {
		l := list(n)
		for level := 1; level <= 16; level++ {
			last := 1<<(16-level) - 1
			for _, k := range []int{0, min(1, last), n >> level & last, last / 2, max(last-1, 0), last, r.Intn(last + 1)} {
				d, ok := merkle.Node(l, level, k)
				left, okLeft := merkle.Node(l, level-1, 2*k)
				right, okRight := merkle.Node(l, level-1, 2*k+1)
				if !ok || !okLeft || !okRight || d != merkle.Parent(left, right) {
					t.Errorf("node %d at level %d over %d digests is not the parent of its children", k, level, n)
				}
			}
		}
	}
}

// checkSameNodes compares the nodes of two lists at all levels, at most n of each level.
func checkSameNodes(t *testing.T, a, b []api.Digest, n int) {
	t.Helper()
	for level := range 17 {
		for k := range min(n, 1<<(16-level)) {
			want, ok := merkle.Node(a, level, k)
			d, okToo := merkle.Node(b, level, k)
			if !ok || !okToo || d != want {
				t.Fatalf("level %d, %d: %x over %d digests, %x over %d", level, k, want, len(a), d, len(b))
			}
		}
	}
}

// P4.4: elements equal to Pad at the end of a list change no node, but other ones do.
func TestPaddingChangesNoNode(t *testing.T) {
	for _, n := range []int{0, 1, 2, 3, 4, 5, 8, 11} {
		l := list(n)
		for _, more := range []int{1, 2, 3, 4, 5, 16} {
			checkSameNodes(t, l, withPadding(l, more), 20)
		}
		zero, _ := merkle.Node(append(list(n), api.Digest{}), 16, 0)
		if top, _ := merkle.Node(l, 16, 0); zero == top {
			t.Errorf("a zero digest after %d digests changes no node", n)
		}
	}
	for _, n := range []int{0, 1, 5, 65535} {
		checkSameNodes(t, list(n), withPadding(list(n), maxLeaves-n), 2)
	}
}
