package money_test

import (
	"fmt"
	"math"
	"math/big"
	"math/rand"
	"regexp"
	"slices"
	"testing"

	"wagonpool/api"
	"wagonpool/money"
)

// This file spells the chapter out a second time, with numbers of any size, and contains the samples of the tests.

const (
	limit    = 9007199254740992
	maxTime  = 1073741824
	least    = math.MinInt
	greatest = math.MaxInt
	down     = 8
	up       = 9
	half     = 10
)

// numbers returns integers of all sizes: in the range, around its ends, and beyond it.
func numbers() (l []int) {
	for _, a := range []int{0, 1, 2, 3, 7, 10, 50, 99, 100, 101, 1 << 20, 1<<26 - 1, 1 << 26, 1<<26 + 1, 1<<27 - 1, 1 << 27, 1<<27 + 1, maxTime, 1<<31 - 1, 1 << 31, 1 << 32, 1<<32 + 1, limit/2 - 1, limit / 2, limit/2 + 1, limit - 2, limit - 1, limit, limit + 1, limit + 2, 2*limit - 1, 2 * limit, 1<<60 + 5, 1<<62 - 1, 1 << 62, greatest - 1, greatest} {
		l = append(l, a, -a)
	}
	return append(l, least, least+1)
}

// random returns an integer, of all sizes, and sometimes one that is out of range.
func random(r *rand.Rand) int {
	a := r.Int() >> r.Intn(63)
	if r.Intn(8) > 0 {
		a %= limit + 1
	}
	if r.Intn(2) == 0 {
		return -a
	}
	return a
}

func inRange(a int) bool {
	return a >= -limit && a <= limit
}

// wide returns a as a number that does not overflow.
func wide(a int) *big.Int {
	return big.NewInt(int64(a))
}

// amount returns x, or ErrOverflow if it is no amount.
func amount(x *big.Int) (int, api.Errno) {
	if x.CmpAbs(wide(limit)) > 0 {
		return 0, api.ErrOverflow
	}
	return int(x.Int64()), api.OK
}

// floored returns a * b / c, rounded down, and the remainder, for c > 0.
func floored(a, b, c *big.Int) (quotient, remainder *big.Int) {
	return new(big.Int).DivMod(new(big.Int).Mul(a, b), c, new(big.Int))
}

// divErrno spells out the errors of Div.
func divErrno(a, b, mode int) api.Errno {
	switch {
	case mode != down && mode != up && mode != half:
		return api.ErrArg
	case !inRange(a) || !inRange(b):
		return api.ErrOverflow
	case b <= 0:
		return api.ErrDivide
	}
	return api.OK
}

// isQuotient tells whether c is what the chapter says, for b > 0: it compares both sides multiplied by 2 * b.
func isQuotient(a, b, mode, c int) bool {
	times := func(n, m int) *big.Int { return new(big.Int).Mul(wide(2*n), wide(m)) }
	x := times(a, 1)
	switch mode {
	case down:
		return times(c, b).Cmp(x) <= 0 && x.Cmp(times(c+1, b)) < 0
	case up:
		return times(c-1, b).Cmp(x) < 0 && x.Cmp(times(c, b)) <= 0
	}
	x.Add(x, wide(b))
	return times(c, b).Cmp(x) <= 0 && x.Cmp(times(c+1, b)) < 0
}

// sum spells Sum out.
func sum(l []int) (int, api.Errno) {
	x := new(big.Int)
	for _, a := range l {
		if !inRange(a) {
			return 0, api.ErrOverflow
		}
		x.Add(x, wide(a))
	}
	return amount(x)
}

// shareErrno spells out the errors of Share.
func shareErrno(total int, weights []int) api.Errno {
	switch {
	case len(weights) > 256:
		return api.ErrLimit
	case slices.ContainsFunc(weights, func(w int) bool { return w < 0 || w > limit }):
		return api.ErrArg
	case !slices.ContainsFunc(weights, func(w int) bool { return w != 0 }):
		return api.ErrArg
	case !inRange(total):
		return api.ErrOverflow
	}
	return api.OK
}

// share spells out the parts of Share: a weight gets one unit more if fewer than k weights come first.
func share(total int, weights []int) (l []int) {
	t, whole := new(big.Int).Abs(wide(total)), new(big.Int)
	for _, w := range weights {
		whole.Add(whole, wide(w))
	}
	left := new(big.Int).Set(t)
	var remainders []*big.Int
	for _, w := range weights {
		part, remainder := floored(t, wide(w), whole)
		left.Sub(left, part)
		l = append(l, int(part.Int64()))
		remainders = append(remainders, remainder)
	}
	for i := range l {
		first := 0
		for j := range l {
			order := remainders[j].Cmp(remainders[i])
			if order > 0 || order == 0 && j < i {
				first++
			}
		}
		if wide(first).Cmp(left) < 0 {
			l[i]++
		}
		if total < 0 {
			l[i] = -l[i]
		}
	}
	return l
}

// text spells Text out, for an integer of any size.
func text(x *big.Int) string {
	sign := ""
	if x.Sign() < 0 {
		sign = "-"
	}
	units, cents := new(big.Int).QuoRem(new(big.Int).Abs(x), wide(100), new(big.Int))
	return fmt.Sprintf("%s%d.%02d", sign, units, cents)
}

var form = regexp.MustCompile(`^(-?)(0|[1-9][0-9]*)\.([0-9][0-9])$`)

// parse spells Parse out.
func parse(s string) (int, api.Errno) {
	m := form.FindStringSubmatch(s)
	if m == nil || s == "-0.00" {
		return 0, api.ErrForm
	}
	x, _ := new(big.Int).SetString(m[1]+m[2]+m[3], 10)
	return amount(x)
}

// worthOf spells Worth out.
func worthOf(worth, built, at, life, floor int) (int, api.Errno) {
	for _, x := range [][3]int{{0, worth, limit}, {0, built, maxTime}, {0, at, maxTime}, {1, life, maxTime}, {0, floor, 100}} {
		if x[1] < x[0] || x[1] > x[2] {
			return 0, api.ErrArg
		}
	}
	lowest := leastValue(worth, floor)
	if at <= built {
		return worth, api.OK
	}
	if at-built >= life {
		return lowest, api.OK
	}
	d, _ := floored(wide(worth), wide(at-built), wide(life))
	return max(lowest, worth-int(d.Int64())), api.OK
}

// leastValue returns worth * floor / 100, rounded up.
func leastValue(worth, floor int) int {
	lowest, rest := floored(wide(worth), wide(floor), wide(100))
	if rest.Sign() > 0 {
		return int(lowest.Int64()) + 1
	}
	return int(lowest.Int64())
}

// checkAmount compares an amount and an error with those that are expected.
func checkAmount(t *testing.T, call string, c int, e api.Errno, want int, errno api.Errno) {
	t.Helper()
	if c != want || e != errno {
		t.Fatalf("%s: %d, %v, want %d, %v", call, c, e, want, errno)
	}
}

func checkDiv(t *testing.T, a, b, mode, want int, errno api.Errno) {
	t.Helper()
	if c, e := money.Div(a, b, mode); c != want || e != errno {
		t.Fatalf("Div(%d, %d, %d): %d, %v, want %d, %v", a, b, mode, c, e, want, errno)
	}
}

// checkQuotient compares Div with the definition.
func checkQuotient(t *testing.T, a, b, mode int) {
	t.Helper()
	errno := divErrno(a, b, mode)
	c, e := money.Div(a, b, mode)
	if e != errno || e != api.OK && c != 0 || e == api.OK && (!inRange(c) || !isQuotient(a, b, mode, c)) {
		t.Fatalf("Div(%d, %d, %d): %d, %v, want error %v", a, b, mode, c, e, errno)
	}
}

func checkSum(t *testing.T, l []int, want int, errno api.Errno) {
	t.Helper()
	if c, e := money.Sum(l); c != want || e != errno {
		t.Fatalf("Sum of %d numbers, %v ..: %d, %v, want %d, %v", len(l), l[:min(9, len(l))], c, e, want, errno)
	}
}

func checkShare(t *testing.T, total int, weights, want []int, errno api.Errno) {
	t.Helper()
	if l, e := money.Share(total, weights); e != errno || !slices.Equal(l, want) {
		t.Fatalf("Share of %d among %v: %v, %v, want %v, %v", total, weights, l, e, want, errno)
	}
}

// checkParts compares Share with the definition.
func checkParts(t *testing.T, total int, weights []int) {
	t.Helper()
	if e := shareErrno(total, weights); e != api.OK {
		checkShare(t, total, weights, nil, e)
		return
	}
	checkShare(t, total, weights, share(total, weights), api.OK)
}

func checkText(t *testing.T, a int, want string) {
	t.Helper()
	if s := money.Text(a); s != want {
		t.Fatalf("Text of %d: %q, want %q", a, s, want)
	}
}

func checkParse(t *testing.T, s string, want int, errno api.Errno) {
	t.Helper()
	if a, e := money.Parse(s); a != want || e != errno {
		t.Fatalf("Parse of %.40q (%d bytes): %d, %v, want %d, %v", s, len(s), a, e, want, errno)
	}
}

func checkWorth(t *testing.T, x [5]int, want int, errno api.Errno) {
	t.Helper()
	if a, e := money.Worth(x[0], x[1], x[2], x[3], x[4]); a != want || e != errno {
		t.Fatalf("Worth of %v: %d, %v, want %d, %v", x, a, e, want, errno)
	}
}

// checkValue compares Worth with the definition.
func checkValue(t *testing.T, x [5]int) {
	t.Helper()
	want, errno := worthOf(x[0], x[1], x[2], x[3], x[4])
	checkWorth(t, x, want, errno)
}
