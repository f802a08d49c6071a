package money_test

import (
	"math/rand"
	"slices"
	"testing"

	"wagonpool/api"
)

// P7.1: the examples of the chapter.
func TestSumExamples(t *testing.T) {
	checkSum(t, []int{1 << 53, 1 << 53, -1 << 53}, 1<<53, api.OK)
	checkSum(t, []int{1<<53 + 1}, 0, api.ErrOverflow)
}

// P7.1: lists at the ends of the range and beyond them.
func TestSumEnds(t *testing.T) {
	for _, x := range []struct {
		l     []int
		want  int
		errno api.Errno
	}{
		{nil, 0, 0}, {[]int{0}, 0, 0}, {[]int{5}, 5, 0}, {[]int{-5}, -5, 0}, {[]int{limit}, limit, 0}, {[]int{-limit}, -limit, 0},
		{[]int{limit, 1}, 0, 3}, {[]int{limit, 1, -1}, limit, 0}, {[]int{1, limit, -1}, limit, 0}, {[]int{-limit, -1}, 0, 3}, {[]int{-limit, -1, 1}, -limit, 0},
		{[]int{limit, limit}, 0, 3}, {[]int{limit, limit, -limit, -limit}, 0, 0}, {[]int{limit, limit, -limit, 1}, 0, 3}, {[]int{-limit, -limit, limit, -1}, 0, 3}, {[]int{-limit, -limit, limit, 1}, 1 - limit, 0},
		{[]int{limit / 2, limit / 2}, limit, 0}, {[]int{limit / 2, limit/2 + 1}, 0, 3}, {[]int{-limit / 2, -limit / 2}, -limit, 0}, {[]int{-limit / 2, -limit/2 - 1}, 0, 3},
		{[]int{limit + 1, -1}, 0, 3}, {[]int{-1, limit + 1}, 0, 3}, {[]int{-limit - 1, 1}, 0, 3}, {[]int{limit + 1, -limit - 1}, 0, 3},
		{[]int{least}, 0, 3}, {[]int{greatest}, 0, 3}, {[]int{least, greatest, 1}, 0, 3}, {[]int{least, least}, 0, 3}, {[]int{greatest, greatest, 2}, 0, 3}, {[]int{greatest, -greatest}, 0, 3},
		{[]int{1 << 32, -1}, 1<<32 - 1, 0}, {[]int{-1 << 32, 1}, 1 - 1<<32, 0}, {[]int{1<<32 - 1, 1<<32 - 1, 2}, 1 << 33, 0}, {[]int{-1, -1, -1}, -3, 0},
	} {
		checkSum(t, x.l, x.want, x.errno)
		want, errno := sum(x.l)
		checkSum(t, x.l, want, errno)
	}
}

// P7.1: all lists of up to three of the samples.
func TestSum(t *testing.T) {
	for _, a := range numbers() {
		want, errno := sum([]int{a})
		checkSum(t, []int{a}, want, errno)
		for _, b := range numbers() {
			want, errno = sum([]int{a, b})
			checkSum(t, []int{a, b}, want, errno)
			for _, c := range numbers() {
				want, errno = sum([]int{a, b, c})
				checkSum(t, []int{a, b, c}, want, errno)
			}
		}
	}
}

// P7.1: long lists, whose partial sums need more than 64 bits.
func TestSumLong(t *testing.T) {
	for _, n := range []int{1 << 10, 1<<10 + 1, 1 << 11, 1<<11 + 1, 1 << 12, 1 << 20} {
		// The sums of 2^11 or more of them are 0 or small if only their last 64 bits are kept.
		for _, a := range []int{limit, -limit, limit - 1, 1 - limit} {
			checkSum(t, slices.Repeat([]int{a}, n), 0, api.ErrOverflow)
			there := slices.Repeat([]int{a}, n)
			back := slices.Repeat([]int{-a}, n)
			checkSum(t, slices.Concat(there, back), 0, api.OK)
			checkSum(t, slices.Concat(there, back, []int{a}), a, api.OK)
			checkSum(t, slices.Concat(there, []int{-a}, back), -a, api.OK)
			checkSum(t, slices.Concat(there, back, []int{a, a}), 0, api.ErrOverflow)
			checkSum(t, slices.Concat(there, back, []int{limit, 1}), 0, api.ErrOverflow)
			checkSum(t, slices.Concat(there, back, []int{limit + 1}), 0, api.ErrOverflow)
			checkSum(t, slices.Concat([]int{-limit - 1}, there, back), 0, api.ErrOverflow)
		}
		checkSum(t, slices.Repeat([]int{1}, n), n, api.OK)
		checkSum(t, slices.Repeat([]int{-1}, n), -n, api.OK)
		checkSum(t, slices.Repeat([]int{limit / n}, n), limit/n*n, api.OK)
		checkSum(t, slices.Repeat([]int{-(limit / n)}, n), -limit/n*n, api.OK)
		checkSum(t, slices.Repeat([]int{limit/n + 1}, n), 0, api.ErrOverflow)
		checkSum(t, slices.Repeat([]int{-limit/n - 1}, n), 0, api.ErrOverflow)
	}
}

// P7.1: random lists.
func TestSumRandom(t *testing.T) {
	r := rand.New(rand.NewSource(3))
	for range 5000 {
		l := make([]int, r.Intn(60))
		for i := range l {
			l[i] = r.Intn(2*limit+1) - limit
		}
		if r.Intn(3) == 0 && len(l) > 0 { // mostly small, so that the sum is often in the range
			for i := range l {
				l[i] >>= r.Intn(53)
			}
			l[r.Intn(len(l))] = []int{limit, -limit, limit + 1, -limit - 1, greatest, least}[r.Intn(6)]
		}
		want, errno := sum(l)
		checkSum(t, l, want, errno)
	}
}
