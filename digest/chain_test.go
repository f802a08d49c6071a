package digest_test

import (
	"slices"
	"strings"
	"testing"

	"wagonpool/api"
	"wagonpool/digest"
)

// end returns the digest with which the chain of these links ends.
func end(d api.Digest, links ...string) api.Digest {
	for _, b := range links {
		d = digest.Next(d, []byte(b))
	}
	return d
}

// chains calls f with all lists of exactly n links.
func chains(links []string, n int, f func(l []string)) {
	if n == 0 {
		f(nil)
		return
	}
	chains(links, n-1, func(l []string) {
		for _, b := range links {
			f(append(slices.Clone(l), b))
		}
	})
}

// P2.4: of equally many links, only equal ones lead from the same digest to the same one.
func TestChainsDiffer(t *testing.T) {
	links := []string{"", "\x00", "a", "ab", "b", strings.Repeat("\x00", 32)}
	for _, start := range []api.Digest{{}, hashed("start")} {
		for n := range 5 {
			u := unique{}
			chains(links, n, func(l []string) {
				d := end(start, l...)
				checkDigest(t, "the same chain", end(start, l...), d)
				u.add(t, d, strings.Join(l, " / "))
			})
		}
	}
}

// P2.4: in a long chain, each link matters, and so does the order of the links.
func TestChainLinksMatter(t *testing.T) {
	links := make([]string, 70)
	for i := range links {
		links[i] = pattern(3*i + 1)
	}
	unchanged := end(api.Digest{}, links...)
	u := unique{unchanged: "unchanged"}
	for i, b := range links {
		flipped := string([]byte{b[0] ^ 0x80}) + b[1:]
		for _, other := range []string{b + "\x00", "\x00" + b, b[1:], b[:len(b)-1], flipped} {
			changed := slices.Clone(links)
			changed[i] = other
			if end(api.Digest{}, changed...) == unchanged {
				t.Errorf("link %d, %q instead of %q, does not change the end", i, other, b)
			}
		}
		if i > 0 {
			swapped := slices.Clone(links)
			swapped[i-1], swapped[i] = swapped[i], swapped[i-1]
			u.add(t, end(api.Digest{}, swapped...), "swapped before "+b)
		}
	}
}

// P2.4: a byte that moves from one link to the next one changes the end, and so does another beginning.
func TestChainBoundaries(t *testing.T) {
	s := pattern(100)
	u := unique{}
	for i := range len(s) + 1 {
		u.add(t, end(api.Digest{}, s[:i], s[i:]), s[:i]+" / "+s[i:])
	}
	u.add(t, end(api.Digest{}, s), "one link")
	for i := range 32 {
		for bit := range 8 {
			var d api.Digest
			d[i] = 1 << bit
			u.add(t, end(d, s), "another beginning")
		}
	}
}

// P2.4: each digest of a chain determines the next one, with the bytes of the link.
func TestChainSteps(t *testing.T) {
	d, spelled := api.Digest{}, api.Digest{}
	for _, b := range edgeTexts() {
		d = digest.Next(d, []byte(b))
		spelled = hashed("\x04next" + string(spelled[:]) + b)
		checkDigest(t, "a step of a chain", d, spelled)
	}
}
