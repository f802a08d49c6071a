package sign_test

import (
	"crypto/sha256"
	"encoding/binary"
	"math"
	"math/big"
	"math/rand"
	"strings"

	"wagonpool/api"
	"wagonpool/sign"
)

// This file spells the chapter out a second time, with the standard library's numbers and hash function.

const p, q = api.P, api.Q

func bigOf(n uint64) *big.Int { return new(big.Int).SetUint64(n) }

// power returns b to the power of n modulo P.
func power(b, n uint64) uint64 {
	return new(big.Int).Exp(bigOf(b), bigOf(n), bigOf(p)).Uint64()
}

// product returns the product of a and b modulo m.
func product(a, b, m uint64) uint64 {
	x := new(big.Int).Mul(bigOf(a), bigOf(b))
	return x.Mod(x, bigOf(m)).Uint64()
}

// spelled returns the eight bytes of n.
func spelled(n uint64) string {
	return string(binary.BigEndian.AppendUint64(nil, n))
}

// hashedNumber returns the first eight bytes of the SHA-256 digest of the tag's length, the tag and s.
func hashedNumber(tag, s string) uint64 {
	d := sha256.Sum256([]byte(string([]byte{byte(len(tag))}) + tag + s))
	return binary.BigEndian.Uint64(d[:8])
}

func secretOf(seed string) uint64 { return 1 + hashedNumber("secret", seed)%(q-1) }

func nonceOf(secret uint64, msg string) uint64 {
	return 1 + hashedNumber("nonce", spelled(secret)+msg)%(q-1)
}

func challengeOf(residue, public uint64, msg string) uint64 {
	return hashedNumber("challenge", spelled(residue)+spelled(public)+msg) % q
}

// signedWith returns a signature with a nonce and a public key of the caller's choice; neither needs to be what P3.4 asks for.
func signedWith(nonce, secret, public uint64, msg string) api.Sig {
	c := challengeOf(power(api.G, nonce), public, msg)
	s := new(big.Int).Mul(bigOf(c), bigOf(secret))
	s.Add(s, bigOf(nonce)).Mod(s, bigOf(q))
	return api.Sig{C: c, S: s.Uint64()}
}

// signed returns the signature that P3.4 describes.
func signed(secret uint64, msg string) api.Sig {
	return signedWith(nonceOf(secret, msg), secret, power(api.G, secret), msg)
}

// residueOf returns the residue with which P3.5 computes the challenge; S may be any number.
func residueOf(public uint64, s api.Sig) uint64 {
	return product(power(api.G, s.S), power(public, q-s.C), p)
}

// verified reports what P3.5 describes.
func verified(public uint64, msg string, s api.Sig) bool {
	if public < 2 || public >= p || power(public, q) != 1 {
		return false
	}
	if len(msg) > 65536 || s.C >= q || s.S >= q {
		return false
	}
	return s.C == challengeOf(residueOf(public, s), public, msg)
}

// verify calls Verify with a message that is a string.
func verify(public uint64, msg string, s api.Sig) bool {
	return sign.Verify(public, []byte(msg), s)
}

// edgeNumbers returns numbers at which something in the chapter begins or ends.
func edgeNumbers() []uint64 {
	return []uint64{0, 1, 2, 3, 4, 5, 255, 256, 1<<32 - 1, 1 << 32, q/2 - 1, q / 2, q/2 + 1, 1 << 60,
		q - 2, q - 1, q, q + 1, q + 2, 1<<61 - 1, 1 << 61, p - 3, p - 2, p - 1, p, p + 1, p + 2, p + 4,
		2 * p, 3*p - 1, 7*p + 4, 8 * p, 8*p + 1, 15 * q, 1<<63 - 1, 1 << 63, math.MaxUint64 - 1, math.MaxUint64}
}

// randomNumbers returns n numbers of all sizes.
func randomNumbers(seed int64, n int) (l []uint64) {
	r := rand.New(rand.NewSource(seed))
	for range n {
		l = append(l, r.Uint64()>>r.Intn(64))
	}
	return l
}

// secrets returns secret keys in the range.
func secrets() []uint64 {
	l := []uint64{1, 2, 3, 5, 255, 1 << 59, q / 2, q/2 + 1, q - 2, q - 1, secretOf("a"), secretOf("railway 0")}
	for _, n := range randomNumbers(11, 8) {
		l = append(l, 1+n%(q-1))
	}
	return l
}

// wrongSecrets returns numbers that are no secret keys.
func wrongSecrets() []uint64 {
	return []uint64{0, q, q + 1, q + 5, 2 * q, p - 1, p, p + 1, 1 << 61, 1 << 63, math.MaxUint64}
}

// messages returns messages that may be signed.
func messages() []string {
	l := []string{"", "\x00", "\x00\x00", "\xff", "a", "abc", "abd", "challenge", "\x00abc", "abc\x00", strings.Repeat("\x00", 8)}
	for _, n := range []int{38, 39, 46, 47, 55, 56, 63, 64, 65, 255, 256, 1000} {
		l = append(l, strings.Repeat("m", n))
	}
	return append(l, longest("a"), longest("\x00"))
}

// longest returns a message of MaxValue bytes.
func longest(s string) string { return strings.Repeat(s, 65536) }
