package digest_test

import (
	"bytes"
	"crypto/sha256"
	"fmt"
	"math/rand"
	"strings"
	"testing"

	"wagonpool/api"
	"wagonpool/digest"
)

// P2.1: digests that FIPS 180-4 and the chapter publish.
func TestSumPublished(t *testing.T) {
	for _, c := range []struct{ message, want string }{
		{"", "e3b0c44298fc1c149afbf4c8996fb92427ae41e4649b934ca495991b7852b855"},
		{"abc", "ba7816bf8f01cfea414140de5dae2223b00361a396177a9cb410ff61f20015ad"},
		{"abcdbcdecdefdefgefghfghighijhijkijkljklmklmnlmnomnopnopq", "248d6a61d20638b8e5c026930c3e6039a33ce45964ff2167f6ecedd419db06c1"},
		{"abcdefghbcdefghicdefghijdefghijkefghijklfghijklmghijklmnhijklmnoijklmnopjklmnopqklmnopqrlmnopqrsmnopqrstnopqrstu", "cf5b16a778af8380036ce59e7b0492370b249b11e8f07a51afac45037afee9d1"},
		{strings.Repeat("a", 1000000), "cdc76e5c9914fb9281a1c7e284d73e67f1809a48a497200e046d39ccc7112cd0"},
	} {
		checkDigest(t, "Sum", digest.Sum([]byte(c.message)), fromHex(t, c.want))
	}
}

// P2.1: all lengths up to several blocks, so that the padding begins at each byte of a block.
func TestSumLengths(t *testing.T) {
	message := pattern(600)
	zeros := strings.Repeat("\x00", 600)
	for n := range 601 {
		checkDigest(t, fmt.Sprintf("Sum of %d bytes", n), digest.Sum([]byte(message[:n])), hashed(message[:n]))
		checkDigest(t, fmt.Sprintf("Sum of %d zeros", n), digest.Sum([]byte(zeros[:n])), hashed(zeros[:n]))
	}
	for _, n := range []int{1<<13 - 1, 1 << 13, 1<<16 - 9, 1<<16 - 8, 1 << 16, 1<<21 + 1} {
		checkDigest(t, fmt.Sprintf("Sum of %d bytes", n), digest.Sum([]byte(pattern(n))), hashed(pattern(n)))
	}
}

// P2.1: each bit of one and of two blocks, and of what the padding shares a block with.
func TestSumBits(t *testing.T) {
	for _, n := range []int{1, 55, 56, 63, 64, 119, 120, 128} {
		b := make([]byte, n)
		for i := range 8 * n {
			b[i/8] ^= 1 << (i % 8)
			checkDigest(t, fmt.Sprintf("Sum of %d bytes with the bit %d", n, i), digest.Sum(b), sha256.Sum256(b))
			b[i/8] = 0
		}
	}
}

// P2.1: byte sequences that nobody chose.
func TestSumRandom(t *testing.T) {
	r := rand.New(rand.NewSource(1))
	for range 20000 {
		s := randomText(r, 300)
		checkDigest(t, "Sum of random bytes", digest.Sum([]byte(s)), hashed(s))
	}
}

// P2.1: a message whose number of bits needs more than 32 bits.
func TestSumLengthOfManyBits(t *testing.T) {
	if testing.Short() {
		t.Skip("takes several seconds")
	}
	b := make([]byte, 1<<29+1)
	b[0], b[len(b)-1] = 1, 2
	checkDigest(t, "Sum of 2^32 + 8 bits", digest.Sum(b), sha256.Sum256(b))
}

// P2.2: the first eight bytes, most significant first, whatever follows them.
func TestNumber(t *testing.T) {
	for _, c := range []struct {
		first string
		want  uint64
	}{
		{"\x00\x00\x00\x00\x00\x00\x01\x02", 258},
		{"\x00\x00\x00\x00\x00\x00\x00\x00", 0},
		{"\x00\x00\x00\x00\x00\x00\x00\x01", 1},
		{"\x00\x00\x00\x00\xff\xff\xff\xff", 1<<32 - 1},
		{"\x01\x02\x03\x04\x05\x06\x07\x08", 0x0102030405060708},
		{"\x7f\xff\xff\xff\xff\xff\xff\xff", 1<<63 - 1},
		{"\x80\x00\x00\x00\x00\x00\x00\x00", 1 << 63},
		{"\xff\xff\xff\xff\xff\xff\xff\xff", 1<<64 - 1},
	} {
		for _, rest := range []string{"\x00", "\x01", "\x80", "\xff"} {
			d := api.Digest([]byte(c.first + strings.Repeat(rest, 24)))
			if n := digest.Number(d); n != c.want {
				t.Errorf("Number(%x): %d, want %d", d, n, c.want)
			}
		}
	}
	if n := digest.Number(api.Digest{}); n != 0 {
		t.Errorf("Number of the zero digest: %d", n)
	}
	if n := digest.Number(digest.Sum(nil)); n != 0xe3b0c44298fc1c14 {
		t.Errorf("Number of Sum of no bytes: %x", n)
	}
}

// P2.2: each byte has its own place in the number, and those behind the eighth have none.
func TestNumberBytes(t *testing.T) {
	for i := range 32 {
		var d api.Digest
		d[i] = 0xa5
		want := uint64(0)
		if i < 8 {
			want = 0xa5 << (56 - 8*i)
		}
		if n := digest.Number(d); n != want {
			t.Errorf("Number(%x): %x, want %x", d, n, want)
		}
	}
}

// R2 and R3: no function writes to its argument or behind it, and nil is an empty slice.
func TestArgumentsUnchanged(t *testing.T) {
	for _, n := range []int{0, 1, 54, 55, 56, 63, 64, 65, 119, 120, 128} {
		memory := []byte(pattern(n + 200))
		b := memory[:n]
		digest.Sum(b)
		digest.Tagged("tag", b)
		digest.Next(digest.Sum(b), b)
		digest.Value("tag", api.Value{Kind: api.BytesV, B: b})
		if !bytes.Equal(memory, []byte(pattern(n+200))) {
			t.Errorf("memory of an argument of %d bytes has changed", n)
		}
	}
	checkDigest(t, "Sum(nil)", digest.Sum(nil), digest.Sum([]byte{}))
	checkDigest(t, "Tagged(.., nil)", digest.Tagged("a", nil), digest.Tagged("a", []byte{}))
	checkDigest(t, "Next(.., nil)", digest.Next(api.Digest{}, nil), digest.Next(api.Digest{}, []byte{}))
}

// R6: equal calls return equal results, whatever was called in between.
func TestEqualCalls(t *testing.T) {
	type results struct{ sum, tagged, value, next api.Digest }
	call := func(s string) (r results) {
		r.sum = digest.Sum([]byte(s))
		r.tagged = digest.Tagged(s, []byte(s))
		r.value, _ = digest.Value(s, text(s))
		r.next = digest.Next(r.sum, []byte(s))
		return r
	}
	first := map[string]results{}
	for _, s := range edgeTexts() {
		first[s] = call(s)
	}
	for _, s := range edgeTexts() {
		if call(s) != first[s] {
			t.Errorf("the second call with %q returns something else", s)
		}
	}
}
