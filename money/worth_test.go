package money_test

import (
	"math/rand"
	"testing"

	"wagonpool/api"
)

// P7.1: the examples of the chapter.
func TestWorthExamples(t *testing.T) {
	checkWorth(t, [5]int{1000, 100, 350, 1000, 10}, 750, api.OK)
	checkWorth(t, [5]int{1000, 100, 50, 1000, 10}, 1000, api.OK)
	checkWorth(t, [5]int{1000, 100, 1050, 1000, 10}, 100, api.OK)
	checkWorth(t, [5]int{1000, 100, 2000, 1000, 10}, 100, api.OK)
}

// P7.1: values computed by hand: the loss is rounded down, and the least value up.
func TestWorthValues(t *testing.T) {
	for _, x := range [][6]int{
		{1000, 100, 100, 1000, 10, 1000}, {1000, 100, 101, 1000, 10, 999}, {1000, 100, 999, 1000, 10, 101}, {1000, 100, 1000, 1000, 10, 100}, {1000, 100, 1001, 1000, 10, 100}, {1000, 100, 1099, 1000, 10, 100}, {1000, 100, 1100, 1000, 10, 100}, {1000, 100, 1099, 1000, 0, 1}, {1000, 100, 1100, 1000, 0, 0}, {1000, 100, 1099, 1000, 100, 1000},
		{10, 0, 1, 3, 0, 7}, {10, 0, 2, 3, 0, 4}, {10, 0, 3, 3, 0, 0}, {10, 0, 2, 3, 41, 5}, {10, 0, 2, 3, 40, 4}, {10, 0, 3, 3, 1, 1}, {10, 0, 3, 3, 10, 1}, {10, 0, 3, 3, 11, 2}, {10, 0, 3, 3, 99, 10}, {1, 0, 3, 3, 1, 1}, {1, 0, 1, 3, 0, 1}, {199, 5, 9, 1, 50, 100},
		{10, 0, 0, 1, 0, 10}, {10, 0, 1, 1, 0, 0}, {10, 0, 1, 1, 100, 10}, {0, 0, 5, 10, 50, 0}, {0, 5, 0, 10, 50, 0}, {0, 0, 10, 10, 100, 0},
		{limit, 0, 1, 2, 0, limit / 2}, {limit, 0, 1, maxTime, 0, limit - 1<<23}, {limit, 0, maxTime - 1, maxTime, 0, 1 << 23}, {limit, 0, maxTime, maxTime, 0, 0}, {limit, 0, maxTime, maxTime, 1, 90071992547410}, {limit, 0, maxTime, maxTime, 100, limit}, {limit, 0, maxTime / 2, maxTime, 99, 8917127262193583}, {limit, 0, maxTime - 1, maxTime - 1, 50, limit / 2}, {limit, 0, maxTime - 2, maxTime - 1, 0, 8388609}, {limit - 1, 1, maxTime, maxTime, 0, 1 << 23},
		{limit, maxTime, 0, 1, 0, limit}, {limit, maxTime, maxTime, 1, 0, limit}, {limit, maxTime - 1, maxTime, 1, 0, 0}, {limit, maxTime - 1, maxTime, 1, 1, 90071992547410}, {limit, maxTime - 1, maxTime, 2, 1, limit / 2},
	} {
		checkWorth(t, [5]int(x[:5]), x[5], api.OK)
		checkValue(t, [5]int(x[:5]))
	}
}

// P7.1: each argument at its bounds and beyond them, together with all others.
func TestWorthBounds(t *testing.T) {
	for _, worth := range []int{least, -limit, -1, 0, 1, 100, limit - 1, limit, limit + 1, greatest} {
		for _, built := range []int{least, -1, 0, 1, 500, maxTime - 1, maxTime, maxTime + 1, greatest} {
			for _, at := range []int{least, -1, 0, 1, 2, 501, 700, maxTime - 1, maxTime, maxTime + 1, greatest} {
				for _, life := range []int{least, -1, 0, 1, 2, 200, 201, maxTime - 1, maxTime, maxTime + 1, greatest} {
					for _, floor := range []int{least, -1, 0, 1, 50, 99, 100, 101, greatest} {
						checkValue(t, [5]int{worth, built, at, life, floor})
					}
				}
			}
		}
	}
}

// P7.1: one argument that is not valid.
func TestWorthErrors(t *testing.T) {
	valid := [5]int{1000, 100, 350, 1000, 10}
	for i, values := range [5][]int{{-1, least, limit + 1, greatest}, {-1, least, maxTime + 1, greatest}, {-1, least, maxTime + 1, greatest}, {0, -1, least, maxTime + 1, greatest}, {-1, least, 101, greatest}} {
		for _, value := range values {
			for _, at := range []int{0, 100, 101, 1100, maxTime} {
				x := valid
				x[2] = at
				x[i] = value
				checkWorth(t, x, 0, api.ErrArg)
			}
		}
	}
}

// P7.1: each argument replaced by each of the samples.
func TestWorthSamples(t *testing.T) {
	for _, valid := range [][5]int{{1000, 100, 350, 1000, 10}, {limit, 0, maxTime - 1, maxTime, 99}, {0, 5, 5, 1, 0}} {
		for i := range valid {
			for _, value := range numbers() {
				x := valid
				x[i] = value
				checkValue(t, x)
			}
		}
	}
}

// P7.1: small numbers of all sorts, around the building and the end of the life.
func TestWorth(t *testing.T) {
	for worth := range 12 {
		for life := 1; life <= 7; life++ {
			for _, floor := range []int{0, 1, 33, 50, 99, 100} {
				for at := range 15 {
					checkValue(t, [5]int{worth, 5, at, life, floor})
				}
			}
		}
	}
}

// P7.1: random arguments.
func TestWorthRandom(t *testing.T) {
	r := rand.New(rand.NewSource(7))
	for range 50000 {
		life := 1 + r.Intn(maxTime)>>r.Intn(30)
		built := r.Intn(maxTime + 1)
		at := min(maxTime, built+r.Intn(2*life))
		checkValue(t, [5]int{r.Intn(limit + 1), built, at, life, r.Intn(101)})
		checkValue(t, [5]int{r.Intn(limit+1) >> r.Intn(53), built, r.Intn(maxTime + 1), life, r.Intn(101)})
	}
}
