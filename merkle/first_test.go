package merkle_test

import (
	"math/rand"
	"testing"

	"wagonpool/api"
	"wagonpool/merkle"
)

func checkFirst(t *testing.T, a, b []api.Digest, want int) {
	t.Helper()
	if i := merkle.First(a, b); i != want {
		t.Errorf("First of %d and %d digests: %d, want %d", len(a), len(b), i, want)
	}
	if i := merkle.First(b, a); i != want {
		t.Errorf("First of %d and %d digests: %d, want %d", len(b), len(a), i, want)
	}
}

// P4.1: the chapter's examples.
func TestFirstExamples(t *testing.T) {
	x, y := leaf(1), leaf(2)
	checkFirst(t, []api.Digest{x, y}, []api.Digest{x}, 1)
	checkFirst(t, []api.Digest{x}, []api.Digest{x, merkle.Pad()}, -1)
	checkFirst(t, []api.Digest{y, x}, []api.Digest{x, y}, 0)
}

// P4.1: all pairs of short lists, with padding at each index.
func TestFirstAllPairs(t *testing.T) {
	var lists [][]api.Digest
	allLists([]api.Digest{leaf(1), padding, {}}, 4, func(l []api.Digest) { lists = append(lists, l) })
	for _, a := range lists {
		for _, b := range lists {
			checkFirst(t, a, b, firstOf(a, b))
		}
	}
}

// P4.1: lists of any length, also of more than MaxLeaves digests: equal ones, beginnings, and one different element.
func TestFirstLengths(t *testing.T) {
	for _, n := range []int{1, 2, 3, 4, 5, 100, 65535, 65536, 65537, 200000} {
		l := list(n)
		checkFirst(t, l, list(n), -1)
		checkFirst(t, l, withPadding(l, 1), -1)
		checkFirst(t, l, withPadding(l, 70000), -1)
		checkFirst(t, l, append(withPadding(l, 3), leaf(-1)), n+3)
		for _, i := range []int{0, n / 2, n - 1} {
			checkFirst(t, l, l[:i], i)
			checkFirst(t, l, replaced(l, i, leaf(-1)), i)
			checkFirst(t, l, replaced(replaced(l, n-1, leaf(-2)), i, leaf(-1)), i)
			checkFirst(t, l, replaced(l, i, padding), i)
		}
	}
	checkFirst(t, nil, nil, -1)
	checkFirst(t, nil, withPadding(nil, 70000), -1)
}

// P4.1: each bit of a digest counts.
func TestFirstBits(t *testing.T) {
	l := list(3)
	for bit := range 256 {
		d := l[1]
		d[bit/8] ^= 1 << (bit % 8)
		checkFirst(t, l, replaced(l, 1, d), 1)
	}
}

// descend goes down from a level at which the nodes 0 differ, to a leaf.
func descend(t *testing.T, a, b []api.Digest, level int) (k int) {
	t.Helper()
	for level > 0 {
		level--
		k *= 2
		left, ok := merkle.Node(a, level, k)
		other, okOther := merkle.Node(b, level, k)
		if !ok || !okOther {
			t.Fatalf("there is no node %d at level %d", k, level)
		}
		if left == other {
			k++
		}
	}
	return k
}

// checkDescent compares the descents from several levels with First: nodes 0 differ if and only if a leaf below them does.
func checkDescent(t *testing.T, a, b []api.Digest) {
	t.Helper()
	first := merkle.First(a, b)
	for _, level := range []int{0, 1, 2, 3, 5, 9, 16} {
		x, _ := merkle.Node(a, level, 0)
		y, _ := merkle.Node(b, level, 0)
		if below := first >= 0 && first < 1<<level; below == (x == y) {
			t.Fatalf("%d and %d digests, which differ first at %d: at level %d, the nodes 0 are equal: %v", len(a), len(b), first, level, x == y)
		}
		if x == y {
			continue
		}
		if k := descend(t, a, b, level); k != first {
			t.Fatalf("%d and %d digests, from level %d: %d, want %d", len(a), len(b), level, k, first)
		}
	}
}

// P4.6: all pairs of short lists.
func TestDescentAllPairs(t *testing.T) {
	var lists [][]api.Digest
	allLists([]api.Digest{leaf(1), padding}, 4, func(l []api.Digest) { lists = append(lists, l) })
	for _, a := range lists {
		for _, b := range lists {
			checkDescent(t, a, b)
		}
	}
}

// P4.6: lists that differ at random indices, or of which one is a beginning of the other.
func TestDescentRandom(t *testing.T) {
	r := rand.New(rand.NewSource(3))
	for range 40 {
		n := 1 + r.Intn(400)
		a := list(n)
		i, j := r.Intn(n), r.Intn(n)
		checkDescent(t, a, a[:i])
		checkDescent(t, a, replaced(replaced(a, i, leaf(-1)), j, padding))
		checkDescent(t, a, withPadding(a, r.Intn(400)))
	}
}

// P4.6: the longest lists, which differ at the first or at the last element.
func TestDescentLong(t *testing.T) {
	l := list(maxLeaves)
	for _, i := range []int{0, maxLeaves/2 - 1, maxLeaves / 2, maxLeaves - 1} {
		if k := descend(t, l, replaced(l, i, leaf(-1)), 16); k != i {
			t.Errorf("the lists differ at %d, but the descent leads to %d", i, k)
		}
	}
	if k := descend(t, l, l[:maxLeaves-1], 16); k != maxLeaves-1 {
		t.Errorf("the descent leads to %d", k)
	}
}
