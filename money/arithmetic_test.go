package money_test

import (
	"fmt"
	"math/big"
	"math/rand"
	"testing"

	"wagonpool/api"
	"wagonpool/money"
)

// operation is one of Add, Sub and Mul, with its spelling by numbers of any size.
type operation struct {
	name  string
	call  func(a, b int) (int, api.Errno)
	exact func(x, y *big.Int) *big.Int
}

func operations() []operation {
	return []operation{
		{"Add", money.Add, func(x, y *big.Int) *big.Int { return new(big.Int).Add(x, y) }},
		{"Sub", money.Sub, func(x, y *big.Int) *big.Int { return new(big.Int).Sub(x, y) }},
		{"Mul", money.Mul, func(x, y *big.Int) *big.Int { return new(big.Int).Mul(x, y) }},
	}
}

// checkOperation compares an operation with the definition.
func checkOperation(t *testing.T, o operation, a, b int) {
	t.Helper()
	want, errno := 0, api.ErrOverflow
	if inRange(a) && inRange(b) {
		want, errno = amount(o.exact(wide(a), wide(b)))
	}
	c, e := o.call(a, b)
	checkAmount(t, fmt.Sprintf("%s(%d, %d)", o.name, a, b), c, e, want, errno)
}

// P7.1: the examples of the chapter.
func TestArithmeticExamples(t *testing.T) {
	c, e := money.Add(2, 3)
	checkAmount(t, "Add", c, e, 5, api.OK)
	c, e = money.Add(1<<53, 1)
	checkAmount(t, "Add", c, e, 0, api.ErrOverflow)
	c, e = money.Mul(1<<27, -1<<26)
	checkAmount(t, "Mul", c, e, -1<<53, api.OK)
	c, e = money.Mul(1<<27, 1<<27)
	checkAmount(t, "Mul", c, e, 0, api.ErrOverflow)
}

// P7.1: results at the ends of the range, just beyond them, and far beyond them.
func TestArithmeticEnds(t *testing.T) {
	for _, x := range []struct {
		operation int
		a, b      int
		want      int
		errno     api.Errno
	}{
		{0, limit, 0, limit, 0}, {0, limit - 1, 1, limit, 0}, {0, limit, -1, limit - 1, 0}, {0, limit, -limit, 0, 0}, {0, limit, 1, 0, 3}, {0, limit, limit, 0, 3},
		{0, -limit, 0, -limit, 0}, {0, 1 - limit, -1, -limit, 0}, {0, -limit, -1, 0, 3}, {0, -limit, -limit, 0, 3},
		{0, limit + 1, 0, 0, 3}, {0, 0, limit + 1, 0, 3}, {0, limit + 1, -1, 0, 3}, {0, -1, limit + 1, 0, 3}, {0, -limit - 1, 1, 0, 3}, {0, 1, -limit - 1, 0, 3},
		{0, greatest, -greatest, 0, 3}, {0, least, least, 0, 3}, {0, least, greatest, 0, 3}, {0, greatest, 1, 0, 3}, {0, greatest, greatest, 0, 3},
		{1, limit, 0, limit, 0}, {1, limit - 1, -1, limit, 0}, {1, limit, limit, 0, 0}, {1, limit, -1, 0, 3}, {1, limit, -limit, 0, 3},
		{1, -limit, 0, -limit, 0}, {1, 1 - limit, 1, -limit, 0}, {1, -limit, 1, 0, 3}, {1, -limit, limit, 0, 3}, {1, 0, limit, -limit, 0}, {1, 0, -limit, limit, 0},
		{1, limit + 1, 1, 0, 3}, {1, limit + 1, limit + 1, 0, 3}, {1, 0, limit + 1, 0, 3}, {1, -limit - 1, -1, 0, 3}, {1, 1, limit + 1, 0, 3},
		{1, least, least, 0, 3}, {1, 0, least, 0, 3}, {1, greatest, greatest, 0, 3}, {1, least, 1, 0, 3},
		{2, limit, 1, limit, 0}, {2, limit, -1, -limit, 0}, {2, -limit, -1, limit, 0}, {2, limit, 0, 0, 0}, {2, 0, -limit, 0, 0}, {2, limit, 2, 0, 3}, {2, limit, limit, 0, 3}, {2, -limit, limit, 0, 3}, {2, -limit, -limit, 0, 3},
		{2, limit / 2, 2, limit, 0}, {2, limit/2 + 1, 2, 0, 3}, {2, 94906265, 94906265, 9007199136250225, 0}, {2, 94906266, 94906265, 9007199231156490, 0}, {2, 94906266, 94906266, 0, 3}, {2, 94906266, -94906266, 0, 3},
		{2, limit + 1, 0, 0, 3}, {2, 0, limit + 1, 0, 3}, {2, 0, least, 0, 3}, {2, least, 0, 0, 3}, {2, -1, least, 0, 3}, {2, least, -1, 0, 3}, {2, least, least, 0, 3}, {2, greatest, greatest, 0, 3},
		// Products that are 0 or small if only their last 64 bits are kept.
		{2, 1 << 32, 1 << 32, 0, 3}, {2, 1 << 53, 1 << 11, 0, 3}, {2, -1 << 40, 1 << 40, 0, 3}, {2, 1<<32 + 1, 1 << 32, 0, 3}, {2, 1<<33 + 1, 1<<31 + 1, 0, 3}, {2, 1<<32 + 1, 1<<32 - 1, 0, 3}, {2, 274177, 67280421310721, 0, 3},
	} {
		o := operations()[x.operation]
		c, e := o.call(x.a, x.b)
		checkAmount(t, fmt.Sprintf("%s(%d, %d)", o.name, x.a, x.b), c, e, x.want, x.errno)
		checkOperation(t, o, x.a, x.b)
	}
}

// P7.1: all pairs of the samples, and all pairs of small numbers.
func TestArithmetic(t *testing.T) {
	for _, o := range operations() {
		for _, a := range numbers() {
			for _, b := range numbers() {
				checkOperation(t, o, a, b)
			}
		}
		for a := -40; a <= 40; a++ {
			for b := -40; b <= 40; b++ {
				checkOperation(t, o, a, b)
			}
		}
	}
}

// P7.1: random pairs, and pairs whose result is near an end of the range.
func TestArithmeticRandom(t *testing.T) {
	r := rand.New(rand.NewSource(1))
	for _, o := range operations() {
		for range 20000 {
			checkOperation(t, o, random(r), random(r))
		}
	}
	for range 20000 {
		a := 1 + r.Intn(limit)>>r.Intn(53)
		for near := -2; near <= 2; near++ {
			checkOperation(t, operations()[0], limit-a, a+near)
			checkOperation(t, operations()[0], a-limit, near-a)
			checkOperation(t, operations()[1], limit-a, near-a)
			checkOperation(t, operations()[1], a-limit, a+near)
			checkOperation(t, operations()[2], a, limit/a+near)
			checkOperation(t, operations()[2], near-limit/a, a)
			checkOperation(t, operations()[2], -a, near-limit/a)
		}
	}
}
