package sign_test

import (
	"bytes"
	"fmt"
	"math/rand"
	"strings"
	"testing"

	"wagonpool/api"
	"wagonpool/sign"
)

// allBytes returns the bytes 0 to n - 1.
func allBytes(n int) string {
	b := make([]byte, n)
	for i := range b {
		b[i] = byte(i)
	}
	return string(b)
}

// P3.2: secret keys that were computed elsewhere, with their public keys (P3.3).
func TestSecretKnown(t *testing.T) {
	for _, c := range []struct {
		seed           string
		secret, public uint64
	}{
		{"\x00", 901120012949088623, 198187037109012936},
		{"a", 816508248444966769, 1529749508255450398},
		{"railway 0", 336941328109761857, 183796642343091320},
		{strings.Repeat("\x00", 64), 498624224058120727, 176844663376452255},
		{strings.Repeat("\xff", 64), 1021909843220921754, 1604696306655990877},
		{allBytes(64), 560358534997995999, 1757123510460360324},
	} {
		if x, e := sign.Secret([]byte(c.seed)); x != c.secret || e != api.OK {
			t.Errorf("Secret(%q): %d, %v, want %d", c.seed, x, e, c.secret)
		}
		if x, e := sign.Public(c.secret); x != c.public || e != api.OK {
			t.Errorf("Public(%d): %d, %v, want %d", c.secret, x, e, c.public)
		}
	}
}

// P3.2: seeds of all lengths: from 1 to 64 bytes they have a secret key, others have none.
func TestSecretLengths(t *testing.T) {
	for n := range 300 {
		seed := allBytes(n)
		want, reason := secretOf(seed), api.OK
		if n < 1 || n > 64 {
			want, reason = 0, api.ErrArg
		}
		if x, e := sign.Secret([]byte(seed)); x != want || e != reason {
			t.Errorf("Secret of %d bytes: %d, %v, want %d, %v", n, x, e, want, reason)
		}
	}
	if x, e := sign.Secret(nil); x != 0 || e != api.ErrArg {
		t.Errorf("Secret(nil): %d, %v", x, e)
	}
	if x, e := sign.Secret(make([]byte, 1<<20)); x != 0 || e != api.ErrArg {
		t.Errorf("Secret of 2^20 bytes: %d, %v", x, e)
	}
}

// P3.2: seeds that nobody chose; each has a secret key of which there is a public key.
func TestSecretRandom(t *testing.T) {
	r := rand.New(rand.NewSource(2))
	for range 3000 {
		seed := make([]byte, 1+r.Intn(64))
		r.Read(seed)
		x, e := sign.Secret(seed)
		if x != secretOf(string(seed)) || e != api.OK {
			t.Fatalf("Secret(%q): %d, %v, want %d", seed, x, e, secretOf(string(seed)))
		}
		if _, e := sign.Public(x); e != api.OK {
			t.Fatalf("Public(%d): %v", x, e)
		}
	}
}

// P3.2: every byte of a seed counts, and so do bytes 0 at its ends.
func TestSecretSeparation(t *testing.T) {
	seen := map[uint64]string{}
	add := func(seed string) {
		x, e := sign.Secret([]byte(seed))
		if other, ok := seen[x]; ok || e != api.OK {
			t.Errorf("Secret(%q): %d, %v, which %q has already", seed, x, e, other)
		}
		seen[x] = seed
	}
	for n := 1; n <= 64; n++ {
		add(strings.Repeat("\x00", n))
	}
	for i := range 64 {
		b := []byte(allBytes(64))
		b[i] ^= 0x80
		add(string(b))
	}
}

// P3.3: the chapter's examples and the ends of the range.
func TestPublicKnown(t *testing.T) {
	for _, c := range []struct{ secret, want uint64 }{
		{1, 4},
		{2, 16},
		{5, 1024},
		{30, 1 << 60},
		{q / 2, power(4, q/2)},
		{q - 1, power(4, q-1)},
	} {
		if x, e := sign.Public(c.secret); x != c.want || e != api.OK {
			t.Errorf("Public(%d): %d, %v, want %d", c.secret, x, e, c.want)
		}
	}
	last, _ := sign.Public(q - 1)
	if product(last, api.G, p) != 1 {
		t.Errorf("Public(Q - 1) is %d, which is not the inverse of G", last)
	}
}

// P3.3: all secret keys of the range.
func TestPublicOfSecrets(t *testing.T) {
	for _, secret := range secrets() {
		x, e := sign.Public(secret)
		if x != power(api.G, secret) || e != api.OK || x != sign.Pow(api.G, secret) {
			t.Errorf("Public(%d): %d, %v, want %d", secret, x, e, power(api.G, secret))
		}
	}
}

// P3.3: numbers that are no secret keys.
func TestPublicErrors(t *testing.T) {
	for _, secret := range wrongSecrets() {
		if x, e := sign.Public(secret); x != 0 || e != api.ErrKey {
			t.Errorf("Public(%d): %d, %v, want 0, ErrKey", secret, x, e)
		}
	}
}

// P3.3: the chapter's examples, the ends of the range, and numbers beyond it that leave the remainder of a valid key.
func TestValidKnown(t *testing.T) {
	for _, c := range []struct {
		x    uint64
		want bool
	}{
		{0, false},
		{1, false},
		{2, true},
		{3, true},
		{4, true},
		{p - 4, false},
		{p - 3, false},
		{p - 2, false},
		{p - 1, false},
		{p, false},
		{p + 1, false},
		{p + 2, false},
		{p + 4, false},
		{2*p + 4, false},
		{7*p + 4, false},
		{8*p + 4, false},
		{1<<64 - 1, false},
	} {
		if ok := sign.Valid(c.x); ok != c.want {
			t.Errorf("Valid(%d): %v", c.x, ok)
		}
	}
}

// P3.3: Valid reports the range and the power Q, for all numbers.
func TestValidMeaning(t *testing.T) {
	for _, x := range append(edgeNumbers(), randomNumbers(3, 4000)...) {
		want := x >= 2 && x < p && power(x, q) == 1
		if ok := sign.Valid(x); ok != want {
			t.Errorf("Valid(%d): %v", x, ok)
		}
	}
}

// P3.3: every public key is valid, its negative is not, and neither is what leaves its remainder.
func TestPublicKeysAreValid(t *testing.T) {
	for _, secret := range secrets() {
		x, _ := sign.Public(secret)
		if !sign.Valid(x) || sign.Valid(p-x) || sign.Valid(p+x) || sign.Valid(2*p-x) || sign.Valid(7*p+x) {
			t.Errorf("Valid of the key %d and numbers beside it: %v, %v, %v, %v, %v", x, sign.Valid(x), sign.Valid(p-x), sign.Valid(p+x), sign.Valid(2*p-x), sign.Valid(7*p+x))
		}
	}
}

// R2: no function writes to its argument or behind it.
func TestArgumentsUnchanged(t *testing.T) {
	for _, n := range []int{1, 8, 16, 55, 64} {
		memory := []byte(allBytes(200))
		b := memory[:n]
		secret, _ := sign.Secret(b)
		public, _ := sign.Public(secret)
		s, _ := sign.Sign(secret, b)
		sign.Verify(public, b, s)
		if !bytes.Equal(memory, []byte(allBytes(200))) {
			t.Errorf("memory of an argument of %d bytes has changed", n)
		}
	}
}

// R6: equal calls return equal results, whatever was called in between.
func TestEqualCalls(t *testing.T) {
	call := func(msg string) string {
		secret, e1 := sign.Secret([]byte(msg))
		public, e2 := sign.Public(secret)
		s, e3 := sign.Sign(secret, []byte(msg))
		return fmt.Sprint(secret, e1, public, e2, s, e3, verify(public, msg, s), sign.Valid(public))
	}
	first := map[string]string{}
	for _, msg := range messages() {
		first[msg] = call(msg)
	}
	for _, msg := range messages() {
		if again := call(msg); again != first[msg] {
			t.Errorf("the second call with %.20q returns %s instead of %s", msg, again, first[msg])
		}
	}
}
