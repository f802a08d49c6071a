package sign_test

import (
	"math"
	"testing"

	"wagonpool/api"
	"wagonpool/sign"
)

// P3.6 takes for granted that P and Q are prime and that G has the order Q.
func TestGroup(t *testing.T) {
	if p != 2*q+1 || !bigOf(p).ProbablyPrime(20) || !bigOf(q).ProbablyPrime(20) {
		t.Errorf("P or Q is not as the chapter needs it")
	}
	if !sign.Valid(api.G) {
		t.Errorf("G does not generate the group")
	}
}

// P3.6: every signature that Sign returns is verified, and its numbers are in their range.
func TestSignaturesAreVerified(t *testing.T) {
	check := func(secret uint64, msg string) {
		public, e1 := sign.Public(secret)
		s, e2 := sign.Sign(secret, []byte(msg))
		if e1 != api.OK || e2 != api.OK || !verify(public, msg, s) || s.C >= q || s.S >= q {
			t.Errorf("secret key %d, message %.20q: %v, %v, %v", secret, msg, s, e1, e2)
		}
	}
	for _, secret := range secrets() {
		for _, msg := range messages() {
			check(secret, msg)
		}
	}
	l := randomNumbers(7, 3000)
	for i := 0; i < len(l); i += 2 {
		check(1+l[i]%(q-1), spelled(l[i+1])[l[i]%8:])
	}
}

// P3.6: a signature is verified with no other key of these.
func TestSignaturesAreOfOneKey(t *testing.T) {
	for _, secret := range secrets() {
		s, _ := sign.Sign(secret, []byte("abc"))
		for _, other := range secrets() {
			public, _ := sign.Public(other)
			if verify(public, "abc", s) != (secret == other) {
				t.Errorf("the signature of the secret key %d, with the public key of %d", secret, other)
			}
		}
	}
}

// P3.6: the power of a sum of exponents is the product of the powers, as long as the sum is less than 2^64.
func TestPowOfSums(t *testing.T) {
	check := func(b, m, n uint64) {
		if n > math.MaxUint64-m {
			return
		}
		want := product(sign.Pow(b, m), sign.Pow(b, n), p)
		if x := sign.Pow(b, m+n); x != want {
			t.Errorf("Pow(%d, %d + %d): %d, want %d", b, m, n, x, want)
		}
	}
	for _, b := range edgeNumbers() {
		for _, m := range edgeNumbers() {
			check(b, m, math.MaxUint64-m)
			for _, n := range []uint64{0, 1, 2, q - 1, q, p - 1, p} {
				check(b, m, n)
			}
		}
	}
	l := randomNumbers(8, 6000)
	for i := 0; i < len(l); i += 3 {
		check(l[i], l[i+1]/2, l[i+2]/2)
	}
}

// P3.6: exactly one of x and P - x is a valid key.
func TestOneOfTwoKeys(t *testing.T) {
	check := func(x uint64) {
		if sign.Valid(x) == sign.Valid(p-x) {
			t.Errorf("Valid(%d) and Valid(%d): both %v", x, p-x, sign.Valid(x))
		}
	}
	for x := uint64(2); x < 500; x++ {
		check(x)
		check(p - x)
		check(q + x)
	}
	check(q)
	check(q + 1)
	for _, n := range randomNumbers(9, 2000) {
		check(2 + n%(p-3))
	}
}

// P3.6: for a verified signature, no other response with the same challenge is verified: those that lead to the same residue are not less than Q, and others lead to another residue.
func TestOneResponse(t *testing.T) {
	for _, secret := range secrets() {
		public, _ := sign.Public(secret)
		s, _ := sign.Sign(secret, []byte("abc"))
		others := []uint64{0, 1, s.S ^ 1, s.S + 1, s.S - 1, q - 1 - s.S, q - 1}
		for k := range uint64(16) {
			others = append(others, s.S+k*q)
		}
		for _, n := range append(randomNumbers(10, 50), others...) {
			sameResidue := sign.Pow(api.G, n) == sign.Pow(api.G, s.S)
			if sameResidue != (n%q == s.S) {
				t.Errorf("the responses %d and %d: the same residue: %v", n, s.S, sameResidue)
			}
			if ok := verify(public, "abc", api.Sig{C: s.C, S: n}); ok != (n == s.S) {
				t.Errorf("the response %d instead of %d: %v", n, s.S, ok)
			}
		}
	}
}
