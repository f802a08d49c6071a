package sign_test

import (
	"math"
	"testing"

	"wagonpool/api"
	"wagonpool/sign"
)

func checkVerify(t *testing.T, what string, public uint64, msg string, s api.Sig, want bool) {
	t.Helper()
	if ok := verify(public, msg, s); ok != want {
		t.Errorf("%s: Verify(%d, %d bytes %.20q, %v): %v", what, public, len(msg), msg, s, ok)
	}
}

// P3.5: signatures that were computed elsewhere; no other key, message, challenge or response goes with them.
func TestVerifyKnown(t *testing.T) {
	for _, c := range known() {
		public := power(api.G, c.secret)
		checkVerify(t, "known", public, c.msg, c.s, true)
		checkVerify(t, "another key", product(public, api.G, p), c.msg, c.s, false)
		checkVerify(t, "another message", public, "b"+c.msg[min(1, len(c.msg)):], c.s, false)
		checkVerify(t, "another challenge", public, c.msg, api.Sig{C: c.s.C + 1, S: c.s.S}, false)
		checkVerify(t, "another response", public, c.msg, api.Sig{C: c.s.C, S: c.s.S + 1}, false)
		checkVerify(t, "swapped", public, c.msg, api.Sig{C: c.s.S, S: c.s.C}, false)
	}
}

// P3.5: every nonce gives a signature that is verified, also those that Sign never takes.
func TestVerifyAnyNonce(t *testing.T) {
	for _, secret := range secrets() {
		public := power(api.G, secret)
		for _, nonce := range append(edgeNumbers(), randomNumbers(5, 10)...) {
			checkVerify(t, "any nonce", public, "abc", signedWith(nonce, secret, public, "abc"), true)
		}
	}
}

// P3.5: the key 2 is valid; it belongs to the secret key (Q + 1) / 2.
func TestVerifyLeastKey(t *testing.T) {
	for _, msg := range messages() {
		checkVerify(t, "the key 2", 2, msg, signed(q/2+1, msg), true)
	}
}

// P3.5: each binary digit of a signature, of a key and of a message counts.
func TestVerifyDigits(t *testing.T) {
	for _, secret := range []uint64{1, 5, q - 1, secretOf("a")} {
		public, msg := power(api.G, secret), "wagon 17"
		s := signed(secret, msg)
		for i := range 64 {
			bit := uint64(1) << i
			checkVerify(t, "a digit of C", public, msg, api.Sig{C: s.C ^ bit, S: s.S}, false)
			checkVerify(t, "a digit of S", public, msg, api.Sig{C: s.C, S: s.S ^ bit}, false)
			checkVerify(t, "a digit of the key", public^bit, msg, s, false)
			b := []byte(msg)
			b[i/8] ^= 1 << (i % 8)
			checkVerify(t, "a digit of the message", public, string(b), s, false)
		}
		checkVerify(t, "unchanged", public, msg, s, true)
	}
}

// P3.5: bytes before, behind and within a message count, also bytes 0.
func TestVerifyMessageBytes(t *testing.T) {
	for _, secret := range []uint64{1, q - 1} {
		public := power(api.G, secret)
		for _, msg := range []string{"", "\x00", "abc", allBytes(64), allBytes(200)} {
			s := signed(secret, msg)
			for _, other := range []string{msg + "\x00", "\x00" + msg, msg + "a", "a" + msg, msg + msg + "\x00"} {
				checkVerify(t, "a longer message", public, other, s, false)
			}
			if msg != "" {
				checkVerify(t, "without the last byte", public, msg[:len(msg)-1], s, false)
				checkVerify(t, "without the first byte", public, msg[1:], s, false)
			}
		}
	}
}

// P3.5: C and S that leave the remainders of a signature, but are not less than Q.
func TestVerifyRange(t *testing.T) {
	for _, secret := range secrets() {
		public := power(api.G, secret)
		s := signed(secret, "abc")
		for k := uint64(1); k <= 15; k++ {
			response := api.Sig{C: s.C, S: s.S + k*q}
			if residueOf(public, response) != residueOf(public, s) {
				t.Fatalf("the response %d does not lead to the same residue", response.S)
			}
			checkVerify(t, "S beyond Q", public, "abc", response, false)
			checkVerify(t, "C beyond Q", public, "abc", api.Sig{C: s.C + k*q, S: s.S}, false)
			checkVerify(t, "both beyond Q", public, "abc", api.Sig{C: s.C + k*q, S: s.S + k*q}, false)
		}
	}
}

// P3.5: the longest message is verified; a longer one is not, although its signature is made like others.
func TestVerifyLimit(t *testing.T) {
	for _, secret := range []uint64{1, q - 1} {
		public := power(api.G, secret)
		for _, b := range []string{"a", "\x00"} {
			msg, long := longest(b), longest(b)+b
			checkVerify(t, "the longest message", public, msg, signed(secret, msg), true)
			checkVerify(t, "a longer message", public, long, signed(secret, long), false)
			checkVerify(t, "a message twice as long", public, msg+msg, signed(secret, msg+msg), false)
		}
	}
}

// forged returns a message and a signature whose challenge fits a key that is not valid: secret is that of the key's remainder or of its negative, and nonce is free.
func forged(t *testing.T, key, secret uint64) (msg string, s api.Sig) {
	t.Helper()
	for i := range uint64(200) {
		msg = spelled(i)
		s = signedWith(i+1, secret, key, msg)
		if key%p == 0 {
			s = api.Sig{C: challengeOf(0, key, msg), S: i}
		}
		if s.C == challengeOf(residueOf(key, s), key, msg) {
			return msg, s
		}
	}
	t.Fatalf("no signature fits the key %d", key)
	return
}

// P3.5: a key that is not valid verifies nothing, although the challenge fits.
func TestVerifyKeys(t *testing.T) {
	type key struct{ public, secret uint64 }
	l := []key{{0, 0}, {1, 0}, {p - 1, 0}, {p - 2, q/2 + 1}, {p - 4, 1}, {p, 0}, {p + 1, 0}, {p + 2, q/2 + 1}, {p + 4, 1}, {2*p - 1, 0}, {7*p + 4, 1}, {8 * p, 0}, {8*p + 1, 0}}
	for _, secret := range secrets() {
		public := power(api.G, secret)
		l = append(l, key{p - public, secret}, key{p + public, secret}, key{2*p - public, secret}, key{7*p + public, secret})
	}
	for _, k := range l {
		msg, s := forged(t, k.public, k.secret)
		checkVerify(t, "a key that is not valid", k.public, msg, s, false)
	}
}

// P3.5: no key verifies signatures of other keys, and none that consist of the numbers at the ends of the range.
func TestVerifyEdges(t *testing.T) {
	for _, public := range append(edgeNumbers(), power(api.G, q-1), power(api.G, 5)) {
		for _, n := range edgeNumbers() {
			for _, m := range []uint64{0, 1, q - 1, q, math.MaxUint64} {
				s := api.Sig{C: n, S: m}
				checkVerify(t, "edges", public, "abc", s, verified(public, "abc", s))
			}
		}
		for _, secret := range secrets() {
			s := signed(secret, "abc")
			checkVerify(t, "all keys", public, "abc", s, public == power(api.G, secret))
		}
	}
}

// P3.5: what nobody chose: signatures of several nonces, some of them with something changed.
func TestVerifyRandom(t *testing.T) {
	l := randomNumbers(6, 6000)
	accepted := 0
	for i := 0; i+5 < len(l); i += 6 {
		secret, msg := 1+l[i]%(q-1), spelled(l[i+1])
		public := power(api.G, secret)
		s := signedWith(l[i+2], secret, public, msg)
		switch l[i+3] % 8 {
		case 0:
			s.C = l[i+4]
		case 1:
			s.S = l[i+4]
		case 2:
			public = l[i+4]
		case 3:
			msg = spelled(l[i+4])
		}
		want := verified(public, msg, s)
		if want {
			accepted++
		}
		checkVerify(t, "random", public, msg, s, want)
	}
	if accepted < 300 || accepted > 700 {
		t.Errorf("%d of 1000 signatures are accepted: the samples do not test both results", accepted)
	}
}

// P3.5: a zero signature goes with nothing that is signed here.
func TestVerifyZero(t *testing.T) {
	for _, secret := range secrets() {
		for _, msg := range messages() {
			public, _ := sign.Public(secret)
			checkVerify(t, "zero", public, msg, api.Sig{}, false)
		}
	}
}
