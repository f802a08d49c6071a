package money_test

import (
	"math/rand"
	"testing"

	"wagonpool/api"
)

// P7.1: the examples of the chapter.
func TestDivExamples(t *testing.T) {
	checkDiv(t, -7, 2, down, -4, api.OK)
	checkDiv(t, -7, 2, up, -3, api.OK)
	checkDiv(t, -7, 2, half, -3, api.OK)
	checkDiv(t, 7, 2, half, 4, api.OK)
	checkDiv(t, 7, 0, down, 0, api.ErrDivide)
	checkDiv(t, 7, 1, 0, 0, api.ErrArg)
}

// P7.1: halves of both signs, and what is just beside them.
func TestDivHalves(t *testing.T) {
	for _, x := range [][5]int{ // dividend, divisor, quotients rounded down, to the nearest, and up
		{1, 2, 0, 1, 1}, {-1, 2, -1, 0, 0}, {3, 2, 1, 2, 2}, {-3, 2, -2, -1, -1},
		{5, 10, 0, 1, 1}, {4, 10, 0, 0, 1}, {6, 10, 0, 1, 1}, {-5, 10, -1, 0, 0}, {-4, 10, -1, 0, 0}, {-6, 10, -1, -1, 0},
		{15, 10, 1, 2, 2}, {14, 10, 1, 1, 2}, {-15, 10, -2, -1, -1}, {-16, 10, -2, -2, -1},
		{1, 3, 0, 0, 1}, {2, 3, 0, 1, 1}, {-1, 3, -1, 0, 0}, {-2, 3, -1, -1, 0},
		{limit / 2, limit, 0, 1, 1}, {limit/2 - 1, limit, 0, 0, 1}, {-limit / 2, limit, -1, 0, 0}, {-limit/2 - 1, limit, -1, -1, 0},
		{limit - 1, 2, limit/2 - 1, limit / 2, limit / 2}, {1 - limit, 2, -limit / 2, 1 - limit/2, 1 - limit/2},
		{limit/2 - 1, limit - 1, 0, 0, 1}, {limit / 2, limit - 1, 0, 1, 1}, {1, limit, 0, 0, 1}, {-1, limit, -1, 0, 0},
		// Exact divisions.
		{0, 1, 0, 0, 0}, {0, 7, 0, 0, 0}, {0, limit, 0, 0, 0}, {12, 4, 3, 3, 3}, {-12, 4, -3, -3, -3}, {-12, 1, -12, -12, -12},
		{limit, 1, limit, limit, limit}, {-limit, 1, -limit, -limit, -limit}, {limit, limit, 1, 1, 1}, {-limit, limit, -1, -1, -1}, {limit, 1 << 26, 1 << 27, 1 << 27, 1 << 27},
	} {
		checkDiv(t, x[0], x[1], down, x[2], api.OK)
		checkDiv(t, x[0], x[1], half, x[3], api.OK)
		checkDiv(t, x[0], x[1], up, x[4], api.OK)
	}
}

// P7.1: the mode is judged first, then the range, and then the divisor.
func TestDivErrors(t *testing.T) {
	for _, mode := range []int{0, 1, 7, 11, -8, -9, -10, 8 + 1<<32, least, greatest} {
		for _, a := range numbers() {
			for _, b := range []int{1, 7, limit, limit + 1, 0, -1, -limit, -limit - 1, least, greatest} {
				checkDiv(t, a, b, mode, 0, api.ErrArg)
			}
		}
	}
	for _, mode := range []int{down, up, half} {
		for _, beyond := range []int{limit + 1, -limit - 1, 2 * limit, least, greatest} {
			for _, b := range []int{1, 0, -1, limit, -limit, limit + 1, -limit - 1, least, greatest} {
				checkDiv(t, beyond, b, mode, 0, api.ErrOverflow)
				checkDiv(t, b, beyond, mode, 0, api.ErrOverflow)
			}
		}
		for _, a := range []int{0, 1, -1, 7, limit, -limit} {
			for _, b := range []int{0, -1, -2, -7, -limit} {
				checkDiv(t, a, b, mode, 0, api.ErrDivide)
			}
		}
	}
}

// P7.1: all pairs of the samples, and all pairs of small numbers, with each mode and with modes that are none.
func TestDiv(t *testing.T) {
	for _, mode := range []int{0, 7, down, up, half, 11} {
		for _, a := range numbers() {
			for _, b := range numbers() {
				checkQuotient(t, a, b, mode)
			}
		}
		for a := -60; a <= 60; a++ {
			for b := -2; b <= 30; b++ {
				checkQuotient(t, a, b, mode)
			}
		}
	}
}

// P7.1: each of the samples, and all small numbers, as a mode.
func TestDivModes(t *testing.T) {
	modes := numbers()
	for mode := -20; mode <= 20; mode++ {
		modes = append(modes, mode)
	}
	for _, mode := range modes {
		for _, x := range [][2]int{{7, 2}, {-7, 2}, {6, 3}, {limit, limit}, {limit + 1, 2}, {7, limit + 1}, {7, 0}, {7, -1}} {
			checkQuotient(t, x[0], x[1], mode)
		}
	}
}

// P7.1: random pairs, and dividends near a multiple of the divisor or of its half.
func TestDivRandom(t *testing.T) {
	r := rand.New(rand.NewSource(2))
	for range 20000 {
		mode := down + r.Intn(3)
		checkQuotient(t, random(r), random(r), mode)
		b := 1 + r.Intn(limit)>>r.Intn(53)
		a := b * r.Intn(1+limit/b)
		for near := -2; near <= 2; near++ {
			checkQuotient(t, a+near, b, mode)
			checkQuotient(t, near-a, b, mode)
			checkQuotient(t, a+b/2+near, b, mode)
			checkQuotient(t, near-a-b/2, b, mode)
		}
	}
}
