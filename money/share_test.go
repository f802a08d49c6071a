package money_test

import (
	"math/rand"
	"slices"
	"testing"

	"wagonpool/api"
)

// totals returns totals of all sizes.
func totals() []int {
	return []int{0, 1, -1, 2, -2, 3, 5, -7, 10, 99, 100, -100, 101, 255, 256, 257, -1000, 1<<32 + 1, limit/2 + 1, -limit/2 - 1, limit - 1, 1 - limit, limit, -limit}
}

// weightLists returns valid weights of all sorts.
func weightLists() [][]int {
	return [][]int{
		{1}, {7}, {limit}, {0, 1}, {1, 0}, {0, 0, 5, 0}, {1, 1}, {1, 1, 1}, {1, 0, 3}, {1, 2}, {2, 1}, {1, 2, 3, 4, 5}, {5, 4, 3, 2, 1},
		{3, 1, 3, 1, 3}, {1, 3, 1, 3, 1}, {0, 2, 0, 2, 0, 2, 0}, {50, 30, 20}, {33, 33, 34}, {1000000, 1, 1, 1}, {1, 1, 1, 1000000},
		{limit, limit}, {limit, limit, limit}, {limit, 0, limit, limit - 1}, {limit, 1}, {1, limit}, {1, limit, 1}, {limit, 1, 1, 1}, {limit - 1, limit - 2, limit - 3}, {limit, limit / 2, limit / 3, limit / 5, limit / 7},
		slices.Repeat([]int{1}, 256), slices.Repeat([]int{limit}, 256), slices.Repeat([]int{limit, limit - 1}, 128), slices.Repeat([]int{0, 3, 1, limit}, 64), append(slices.Repeat([]int{0}, 255), 1), slices.Repeat([]int{1, 2, 3, 4, 5, 6, 7}, 36),
	}
}

// invalidWeights returns weights that Share refuses with ErrArg.
func invalidWeights() [][]int {
	return [][]int{
		nil, {}, {0}, {0, 0, 0}, slices.Repeat([]int{0}, 256), {-1}, {1, -1}, {-1, 1}, {5, -1, 5}, {0, -1}, {1, -limit}, {least}, {1, least}, {limit, least, limit},
		{limit + 1}, {1, limit + 1}, {limit + 1, 1}, {greatest}, {1, greatest}, {greatest, greatest, 2}, {greatest, -greatest}, {0, limit + 1},
		// Sums that are positive, or 0 if only their last 64 bits are kept.
		{1 << 62, 1 << 62, 1 << 62, 1 << 62}, {limit + 1, limit, limit}, {-1, limit}, append(slices.Repeat([]int{1}, 255), -1), append(slices.Repeat([]int{limit}, 255), limit+1),
	}
}

// P7.1: the examples of the chapter.
func TestShareExamples(t *testing.T) {
	checkShare(t, 100, []int{1, 1, 1}, []int{34, 33, 33}, api.OK)
	checkShare(t, -5, []int{1, 0, 3}, []int{-1, 0, -4}, api.OK)
	checkShare(t, 1, nil, nil, api.ErrArg)
}

// P7.1: parts computed by hand; of equal remainders, the smaller index comes first, also where the total is negative.
func TestShareParts(t *testing.T) {
	for _, x := range []struct {
		total         int
		weights, want []int
	}{
		{0, []int{1, 2, 3}, []int{0, 0, 0}}, {7, []int{5}, []int{7}}, {-7, []int{limit}, []int{-7}}, {limit, []int{1}, []int{limit}}, {-limit, []int{limit}, []int{-limit}},
		{1, []int{1, 1}, []int{1, 0}}, {-1, []int{1, 1}, []int{-1, 0}}, {3, []int{1, 1}, []int{2, 1}}, {-3, []int{1, 1}, []int{-2, -1}}, {1, []int{0, 1, 1}, []int{0, 1, 0}},
		{101, []int{1, 1, 1}, []int{34, 34, 33}}, {-101, []int{1, 1, 1}, []int{-34, -34, -33}}, {2, []int{1, 1, 1, 1}, []int{1, 1, 0, 0}},
		// Remainders: 4 of 6, 5 of 6, 3 of 6.
		{10, []int{1, 2, 3}, []int{2, 3, 5}}, {10, []int{3, 2, 1}, []int{5, 3, 2}}, {-10, []int{1, 2, 3}, []int{-2, -3, -5}},
		// Remainders: 5 of 10, 5 of 10, 0, 0.
		{5, []int{1, 3, 2, 4}, []int{1, 1, 1, 2}}, {5, []int{3, 1, 2, 4}, []int{2, 0, 1, 2}},
		// A greater weight with a smaller remainder gets nothing more.
		{4, []int{10, 3, 3}, []int{2, 1, 1}}, {1, []int{3, 2, 2, 2}, []int{1, 0, 0, 0}}, {3, []int{4, 1, 1, 1}, []int{2, 1, 0, 0}},
		{limit, []int{limit, limit}, []int{limit / 2, limit / 2}}, {limit, []int{limit, limit, limit}, []int{3002399751580331, 3002399751580331, 3002399751580330}}, {limit - 1, []int{limit, limit}, []int{limit / 2, limit/2 - 1}}, {limit, []int{1, limit}, []int{1, limit - 1}}, {limit, []int{limit, 1}, []int{limit - 1, 1}},
	} {
		checkShare(t, x.total, x.weights, x.want, api.OK)
		checkParts(t, x.total, x.weights)
	}
}

// P7.1: all samples.
func TestShare(t *testing.T) {
	for _, weights := range weightLists() {
		for _, total := range append(numbers(), totals()...) {
			checkParts(t, total, weights)
		}
	}
}

// P7.1: each of the samples as a weight, alone and beside others.
func TestShareWeights(t *testing.T) {
	for _, w := range numbers() {
		for _, total := range append(numbers(), totals()...) {
			checkParts(t, total, []int{w})
			checkParts(t, total, []int{w, 1})
			checkParts(t, total, []int{0, w, w, limit})
		}
	}
}

// P7.1: all short lists of small weights.
func TestShareShort(t *testing.T) {
	var visit func(weights []int)
	visit = func(weights []int) {
		for total := -9; total <= 20; total++ {
			checkParts(t, total, weights)
		}
		if len(weights) < 4 {
			for w := -1; w <= 4; w++ {
				visit(append(slices.Clone(weights), w))
			}
		}
	}
	visit(nil)
}

// P7.1: random weights, up to 256 of them.
func TestShareRandom(t *testing.T) {
	r := rand.New(rand.NewSource(4))
	for range 3000 {
		weights := make([]int, 1+r.Intn([]int{3, 10, 256}[r.Intn(3)]))
		size := r.Intn(54)
		for i := range weights {
			weights[i] = r.Intn(limit+1) >> size
		}
		checkParts(t, random(r), weights)
		checkParts(t, r.Intn(1000), weights)
	}
}

// P7.1: the number of weights is judged first, then the weights, and then the total.
func TestShareErrors(t *testing.T) {
	many := [][]int{slices.Repeat([]int{1}, 257), slices.Repeat([]int{0}, 257), slices.Repeat([]int{-1}, 257), slices.Repeat([]int{limit + 1}, 257), slices.Repeat([]int{limit}, 1000), append(slices.Repeat([]int{0}, 256), 1)}
	for _, total := range append(numbers(), totals()...) {
		for _, weights := range many {
			checkShare(t, total, weights, nil, api.ErrLimit)
		}
		for _, weights := range invalidWeights() {
			checkShare(t, total, weights, nil, api.ErrArg)
		}
	}
	for _, weights := range weightLists() {
		for _, total := range []int{limit + 1, -limit - 1, 2 * limit, greatest, least, least + 1} {
			checkShare(t, total, weights, nil, api.ErrOverflow)
		}
	}
}
