package sign_test

import (
	"math"
	"testing"

	"wagonpool/api"
	"wagonpool/sign"
)

func checkPow(t *testing.T, b, n, want uint64) {
	t.Helper()
	if x := sign.Pow(b, n); x != want {
		t.Errorf("Pow(%d, %d): %d, want %d", b, n, x, want)
	}
}

// P3.1: the chapter's examples, and powers that were computed elsewhere.
func TestPowKnown(t *testing.T) {
	for _, c := range []struct{ b, n, want uint64 }{
		{2, 10, 1024},
		{3, 0, 1},
		{p, 5, 0},
		{p - 1, 3, p - 1},
		{api.G, q, 1},
		{2, 60, 1 << 60},
		{2, 61, 3153},
		{2, 64, 25224},
		{3, q, 1},
		{2, q - 1, 1152921504606845400},
		{p - 2, q, p - 1},
		{3, math.MaxUint64, 421940072692237180},
		{math.MaxUint64, 1, 25223},
		{math.MaxUint64, math.MaxUint64, 1620563305002154561},
		{p - 1, math.MaxUint64, p - 1},
		{p - 1, math.MaxUint64 - 1, 1},
		{123456789123456789, 987654321987654321, 1897630380061052538},
		{1 << 63, 1 << 63, 59946841815828314},
	} {
		checkPow(t, c.b, c.n, c.want)
	}
}

// P3.1: the power 0 of every base is 1, also of 0 and of multiples of P.
func TestPowZeroExponent(t *testing.T) {
	for _, b := range edgeNumbers() {
		checkPow(t, b, 0, 1)
	}
}

// P3.1: the power 1 is the remainder, so that no result is P or greater.
func TestPowOneExponent(t *testing.T) {
	for _, b := range edgeNumbers() {
		checkPow(t, b, 1, b%p)
	}
}

// P3.1: every positive power of a multiple of P is 0.
func TestPowZeroBase(t *testing.T) {
	for k := range uint64(9) {
		for _, n := range []uint64{1, 2, q - 1, q, p - 1, p, math.MaxUint64} {
			checkPow(t, k*p, n, 0)
		}
	}
}

// P3.1: P - 1 stands for -1, and P + 1 for 1.
func TestPowUnits(t *testing.T) {
	for _, n := range edgeNumbers() {
		minus := uint64(1)
		if n%2 == 1 {
			minus = p - 1
		}
		checkPow(t, p-1, n, minus)
		checkPow(t, 2*p-1, n, minus)
		checkPow(t, 1, n, 1)
		checkPow(t, p+1, n, 1)
	}
}

// P3.1: all bases and exponents at which something begins or ends.
func TestPowEdges(t *testing.T) {
	for _, b := range edgeNumbers() {
		for _, n := range edgeNumbers() {
			checkPow(t, b, n, power(b, n))
		}
	}
}

// P3.1: each binary digit of the exponent and of the base counts.
func TestPowDigits(t *testing.T) {
	for i := range 64 {
		bit := uint64(1) << i
		for _, x := range []uint64{3, api.G, p - 1, 0x0123456789abcdef} {
			checkPow(t, x, bit, power(x, bit))
			checkPow(t, x, bit-1, power(x, bit-1))
			checkPow(t, bit, x, power(bit, x))
			checkPow(t, ^bit, x, power(^bit, x))
		}
	}
}

// P3.1: small powers, multiplied one by one.
func TestPowSmall(t *testing.T) {
	for b := range uint64(50) {
		want := uint64(1)
		for n := range uint64(200) {
			checkPow(t, b, n, want)
			want = product(want, b, p)
		}
	}
}

// P3.1: numbers that nobody chose.
func TestPowRandom(t *testing.T) {
	l := randomNumbers(1, 6000)
	for i := 0; i < len(l); i += 2 {
		checkPow(t, l[i], l[i+1], power(l[i], l[i+1]))
	}
}
