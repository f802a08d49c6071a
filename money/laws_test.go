package money_test

import (
	"math/rand"
	"slices"
	"testing"

	"wagonpool/api"
	"wagonpool/money"
)

// result is a number, and whether it is one: where an operation fails, no law is asked for.
type result struct {
	n  int
	ok bool
}

func value(n int) result {
	return result{n, true}
}

// lift makes an operation accept the results of others.
func lift(f func(a, b int) (int, api.Errno)) func(x, y result) result {
	return func(x, y result) result {
		if !x.ok || !y.ok {
			return result{}
		}
		c, e := f(x.n, y.n)
		return result{c, e == api.OK}
	}
}

// amounts returns the samples that are amounts.
func amounts() []int {
	return slices.DeleteFunc(numbers(), func(a int) bool { return !inRange(a) })
}

// P7.2: Add and Mul are commutative, also in their errors, and subtracting what was added gives back the other number.
func TestCommutative(t *testing.T) {
	add, sub, mul := lift(money.Add), lift(money.Sub), lift(money.Mul)
	for _, a := range numbers() {
		for _, b := range numbers() {
			x, y := value(a), value(b)
			if add(x, y) != add(y, x) || mul(x, y) != mul(y, x) {
				t.Fatalf("Add or Mul of %d and %d is not commutative", a, b)
			}
			if s := add(x, y); s.ok && (sub(s, y) != x || sub(s, x) != y) {
				t.Fatalf("Sub of the sum of %d and %d: %v, %v", a, b, sub(s, y), sub(s, x))
			}
			if d := sub(x, y); d.ok && (add(d, y) != x || sub(x, d) != y) {
				t.Fatalf("Add to the difference of %d and %d: %v, %v", a, b, add(d, y), sub(x, d))
			}
		}
	}
}

// P7.2: the laws of arithmetic, wherever both sides are no error.
func TestLaws(t *testing.T) {
	add, sub, mul := lift(money.Add), lift(money.Sub), lift(money.Mul)
	compared := map[string]int{}
	same := func(law string, x, y result) {
		t.Helper()
		if x.ok && y.ok {
			compared[law]++
			if x != y {
				t.Fatalf("%s: %d and %d", law, x.n, y.n)
			}
		}
	}
	check := func(a, b, c int) {
		t.Helper()
		x, y, z := value(a), value(b), value(c)
		same("(a + b) + c = a + (b + c)", add(add(x, y), z), add(x, add(y, z)))
		same("(a * b) * c = a * (b * c)", mul(mul(x, y), z), mul(x, mul(y, z)))
		same("a * (b + c) = a * b + a * c", mul(x, add(y, z)), add(mul(x, y), mul(x, z)))
		same("a * (b - c) = a * b - a * c", mul(x, sub(y, z)), sub(mul(x, y), mul(x, z)))
		same("a - (b + c) = (a - b) - c", sub(x, add(y, z)), sub(sub(x, y), z))
		same("a - (b - c) = (a - b) + c", sub(x, sub(y, z)), add(sub(x, y), z))
		same("a - b = a + -1 * b", sub(x, y), add(x, mul(value(-1), y)))
		same("a + 0 = a", add(x, value(0)), x)
		same("a - a = 0", sub(x, x), value(0))
		same("a * 1 = a", mul(x, value(1)), x)
		same("a * 0 = 0", mul(x, value(0)), value(0))
	}
	for _, a := range amounts() {
		for _, b := range amounts() {
			for _, c := range amounts() {
				check(a, b, c)
			}
		}
	}
	r := rand.New(rand.NewSource(8))
	for range 20000 {
		check(random(r)>>r.Intn(53), random(r)>>r.Intn(53), random(r)>>r.Intn(53))
	}
	for law, n := range compared {
		if n < 10000 {
			t.Errorf("%s was compared only %d times", law, n)
		}
	}
}

// quotients returns a / b as each mode rounds it.
func quotients(t *testing.T, a, b int) (q [3]int) {
	t.Helper()
	for i, mode := range []int{api.ExDown, api.ExHalf, api.ExUp} {
		c, e := money.Div(a, b, mode)
		if e != api.OK {
			t.Fatalf("Div(%d, %d, %d): %v", a, b, mode, e)
		}
		q[i] = c
	}
	return q
}

// checkRounding checks the laws of Div for a dividend and the one after it.
func checkRounding(t *testing.T, a, b int) {
	t.Helper()
	q := quotients(t, a, b)
	if q[0] > q[1] || q[1] > q[2] || q[2]-q[0] > 1 {
		t.Fatalf("%d / %d: %v are not increasing or differ by more than 1", a, b, q)
	}
	if (q[0] == q[2]) != (a%b == 0) {
		t.Fatalf("%d / %d: %v", a, b, q)
	}
	if a == limit {
		return
	}
	next := quotients(t, a+1, b)
	for i := range q {
		if next[i] < q[i] || next[i] > q[i]+1 {
			t.Fatalf("%d / %d: %v, and for the next dividend %v", a, b, q, next)
		}
	}
}

// P7.3: ExDown, ExHalf and ExUp are increasing and differ by at most 1, are equal if the division is exact, and are monotonic in a.
func TestRounding(t *testing.T) {
	for b := 1; b <= 40; b++ {
		for a := -130; a <= 130; a++ {
			checkRounding(t, a, b)
		}
	}
	for _, b := range amounts() {
		for _, a := range amounts() {
			if b > 0 {
				checkRounding(t, a, b)
				checkRounding(t, a/b*b, b)
				checkRounding(t, -limit, b)
				checkRounding(t, limit, b)
			}
		}
	}
	r := rand.New(rand.NewSource(9))
	for range 20000 {
		b := 1 + r.Intn(limit)>>r.Intn(53)
		checkRounding(t, r.Intn(2*limit+1)-limit, b)
		checkRounding(t, b*r.Intn(1+limit/b), b)
		checkRounding(t, -b*r.Intn(1+limit/b), b)
	}
}

// P7.3: monotonic in a over great distances.
func TestRoundingMonotonic(t *testing.T) {
	dividends := amounts()
	slices.Sort(dividends)
	for _, b := range amounts() {
		for i := 1; b > 0 && i < len(dividends); i++ {
			before, after := quotients(t, dividends[i-1], b), quotients(t, dividends[i], b)
			for mode := range before {
				if before[mode] > after[mode] {
					t.Fatalf("%d / %d: %v, but %d / %d: %v", dividends[i-1], b, before, dividends[i], b, after)
				}
			}
		}
	}
}

// P7.4: Sum does not depend on the order of the elements, and sums of parts add up to the sum of the whole.
func TestSums(t *testing.T) {
	r := rand.New(rand.NewSource(10))
	for range 5000 {
		l := make([]int, r.Intn(40))
		for i := range l {
			l[i] = r.Intn(2*limit+1) - limit
			if r.Intn(3) > 0 {
				l[i] >>= r.Intn(53)
			}
			if r.Intn(300) == 0 {
				l[i] = []int{limit + 1, -limit - 1, greatest, least}[r.Intn(4)]
			}
		}
		want, errno := money.Sum(l)
		for _, reordered := range [][]int{shuffled(r, l), shuffled(r, l), slices.Sorted(slices.Values(l))} {
			checkSum(t, reordered, want, errno)
		}
		slices.Reverse(l)
		checkSum(t, l, want, errno)
		checkSumOfParts(t, l, r.Intn(len(l)+1))
	}
}

func shuffled(r *rand.Rand, l []int) []int {
	l = slices.Clone(l)
	r.Shuffle(len(l), func(i, j int) { l[i], l[j] = l[j], l[i] })
	return l
}

// checkSumOfParts compares the sum of l with those of its first n elements and of the rest.
func checkSumOfParts(t *testing.T, l []int, n int) {
	t.Helper()
	first, e := money.Sum(l[:n])
	second, f := money.Sum(l[n:])
	if e != api.OK || f != api.OK {
		return
	}
	want, errno := money.Add(first, second)
	checkSum(t, l, want, errno)
	checkSum(t, []int{first, second}, want, errno)
}

// P7.5: the laws of Share, for all samples and for random weights.
func TestFairParts(t *testing.T) {
	r := rand.New(rand.NewSource(11))
	for _, weights := range weightLists() {
		for _, total := range totals() {
			checkFair(t, total, weights)
		}
	}
	for range 2000 {
		weights := make([]int, 1+r.Intn(20))
		size := r.Intn(54)
		for i := range weights {
			weights[i] = r.Intn(limit+1) >> size >> r.Intn(4)
		}
		weights[r.Intn(len(weights))] = 1 + r.Intn(limit)
		checkFair(t, r.Intn(2*limit+1)-limit, weights)
		checkFair(t, r.Intn(200)-100, weights)
	}
}

// absolute returns the absolute value of an amount.
func absolute(a int) int {
	return max(a, -a)
}

// checkFair checks the laws of Share.
func checkFair(t *testing.T, total int, weights []int) {
	t.Helper()
	parts, e := money.Share(total, weights)
	if e != api.OK || len(parts) != len(weights) {
		t.Fatalf("Share of %d among %v: %v, %v", total, weights, parts, e)
	}
	checkSum(t, parts, total, api.OK)
	whole := wide(0)
	for _, w := range weights {
		whole.Add(whole, wide(w))
	}
	for i, w := range weights {
		exact, rest := floored(wide(absolute(total)), wide(w), whole)
		more := absolute(parts[i]) - int(exact.Int64())
		if more < 0 || more > 1 || more == 1 && rest.Sign() == 0 {
			t.Fatalf("Share of %d among %v: part %d of the weight %d", total, weights, parts[i], w)
		}
		if parts[i] != 0 && (w == 0 || (parts[i] < 0) != (total < 0)) {
			t.Fatalf("Share of %d among %v: part %d of the weight %d", total, weights, parts[i], w)
		}
		for j, v := range weights {
			if v > w && absolute(parts[j]) < absolute(parts[i]) {
				t.Fatalf("Share of %d among %v: parts %d and %d of the weights %d and %d", total, weights, parts[i], parts[j], w, v)
			}
		}
	}
}

// P7.7: Worth does not increase with time, and is between the least value and worth.
func TestWorthDecreases(t *testing.T) {
	r := rand.New(rand.NewSource(12))
	for range 2000 {
		worth, floor := r.Intn(limit+1)>>r.Intn(53), r.Intn(101)
		life := 1 + r.Intn(maxTime)>>r.Intn(30)
		built := r.Intn(maxTime + 1)
		minutes := []int{0, built, min(built+1, maxTime), min(built+life-1, maxTime), min(built+life, maxTime), min(built+life+1, maxTime), maxTime}
		for range 20 {
			minutes = append(minutes, r.Intn(maxTime+1), min(built+r.Intn(life+1), maxTime))
		}
		checkDecreasing(t, worth, built, life, floor, minutes)
	}
	for worth := range 30 {
		for life := 1; life <= 20; life++ {
			for _, floor := range []int{0, 1, 20, 50, 99, 100} {
				minutes := make([]int, 40)
				for at := range minutes {
					minutes[at] = at
				}
				checkDecreasing(t, worth, 7, life, floor, minutes)
			}
		}
	}
}

// checkDecreasing checks the laws of Worth at some minutes.
func checkDecreasing(t *testing.T, worth, built, life, floor int, minutes []int) {
	t.Helper()
	slices.Sort(minutes)
	before := worth
	for _, at := range minutes {
		a, e := money.Worth(worth, built, at, life, floor)
		if e != api.OK || a > before || a < leastValue(worth, floor) {
			t.Fatalf("Worth of %d, %d, %d, %d, %d: %d, %v, and before that %d", worth, built, at, life, floor, a, e, before)
		}
		before = a
	}
}
