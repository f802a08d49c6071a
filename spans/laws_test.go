package spans_test

import (
	"math/rand"
	"slices"
	"testing"

	"wagonpool/api"
	"wagonpool/spans"
)

// agree tells whether Contains gives the same for both lists at some minutes.
func agree(a, b []api.Span, minutes []int) bool {
	for _, m := range minutes {
		if spans.Contains(a, m) != spans.Contains(b, m) {
			return false
		}
	}
	return true
}

// checkCanonical compares two lists as sets, by their ends and by their normal lists.
func checkCanonical(t *testing.T, a, b []api.Span, same bool) {
	t.Helper()
	if got := agree(a, b, ends(a, b)); got != same {
		t.Fatalf("%v and %v agree at their ends: %v, want %v", a, b, got, same)
	}
	if got := slices.Equal(spans.Normal(a), spans.Normal(b)); got != same {
		t.Fatalf("Normal returns the same list for %v and %v: %v, want %v", a, b, got, same)
	}
}

// P5.3: all pairs of short lists at the ends of time, whose sets are compared minute by minute.
func TestCanonicalSmall(t *testing.T) {
	for _, first := range []int{-1, 0, maxTime - 2} {
		var minutes []int
		for m := first - 1; m <= first+5; m++ {
			minutes = append(minutes, m)
		}
		lists := append(smallLists(first, first+3, 2), list(first, first+4), list(first+4, first, first+1, first+2))
		for _, a := range lists {
			for _, b := range lists {
				same := !slices.ContainsFunc(minutes, func(m int) bool { return in(a, m) != in(b, m) })
				checkCanonical(t, a, b, same)
			}
		}
	}
}

// P5.3: lists of all sorts, whose sets are the same if the definition gives the same normal list.
func TestCanonicalSamples(t *testing.T) {
	for _, a := range samples() {
		for _, b := range samples() {
			memberA, memberB := func(m int) bool { return in(a, m) }, func(m int) bool { return in(b, m) }
			checkCanonical(t, a, b, slices.Equal(listOf(memberA, a, b), listOf(memberB, a, b)))
		}
	}
}

// P5.3: other lists of the same set: in another order, with repeated and with divided spans, and the normal list itself; one minute more or less makes another set.
func TestCanonicalRandom(t *testing.T) {
	r := rand.New(rand.NewSource(6))
	randomPairs(7, 1000, func(a, b []api.Span) {
		other := slices.Concat(a, a[:len(a)/2], list(9, 9, maxTime, least))
		r.Shuffle(len(other), func(i, j int) { other[i], other[j] = other[j], other[i] })
		if i := r.Intn(len(other)); other[i].From < other[i].To {
			middle := other[i].From + 1
			other = append(other, api.Span{From: middle, To: other[i].To})
			other[i].To = middle
		}
		checkCanonical(t, a, other, true)
		x := spans.Normal(a)
		checkCanonical(t, a, x, true)
		checkList(t, "Normal of Normal", spans.Normal(x), x, a)
		for _, m := range []int{0, 30, maxTime/2 + 20, maxTime - 1} {
			if in(a, m) {
				checkCanonical(t, a, spans.Minus(a, list(m, m+1)), false)
			} else {
				checkCanonical(t, a, append(x, api.Span{From: m, To: m + 1}), false)
			}
		}
	})
}

// checkPairLaws compares what P5.4 says of two lists.
func checkPairLaws(t *testing.T, a, b []api.Span) {
	t.Helper()
	union, common, minus := spans.Union(a, b), spans.Intersect(a, b), spans.Minus(a, b)
	checkList(t, "Union, exchanged,", spans.Union(b, a), union, a, b)
	checkList(t, "Intersect, exchanged,", spans.Intersect(b, a), common, a, b)
	checkList(t, "what is removed and what remains", spans.Union(minus, common), spans.Normal(a), a, b)
	checkList(t, "what is removed and remains", spans.Intersect(minus, common), nil, a, b)
	checkList(t, "what remains of b", spans.Intersect(minus, b), nil, a, b)
	checkList(t, "Union with what remains", spans.Union(minus, b), union, a, b)
	checkNumber(t, a, spans.Minutes(minus)+spans.Minutes(common))
	if both, apart := spans.Minutes(union)+spans.Minutes(common), spans.Minutes(a)+spans.Minutes(b); both != apart {
		t.Fatalf("the union and the intersection of %v and %v have %d minutes, both lists %d", a, b, both, apart)
	}
}

// checkTripleLaws compares what P5.4 says of three lists.
func checkTripleLaws(t *testing.T, a, b, c []api.Span) {
	t.Helper()
	union, common := spans.Union, spans.Intersect
	checkList(t, "Union, associated,", union(a, union(b, c)), union(union(a, b), c), a, b, c)
	checkList(t, "Intersect, associated,", common(a, common(b, c)), common(common(a, b), c), a, b, c)
	checkList(t, "Intersect, distributed,", common(a, union(b, c)), union(common(a, b), common(a, c)), a, b, c)
	checkList(t, "Union, distributed,", union(a, common(b, c)), common(union(a, b), union(a, c)), a, b, c)
}

// P5.4: all pairs and triples of lists of all sorts.
func TestLawsSamples(t *testing.T) {
	for _, a := range samples() {
		for _, b := range samples() {
			checkPairLaws(t, a, b)
			for _, c := range samples() {
				checkTripleLaws(t, a, b, c)
			}
		}
	}
}

// P5.4: longer lists.
func TestLawsRandom(t *testing.T) {
	var before []api.Span
	randomPairs(8, 2000, func(a, b []api.Span) {
		checkPairLaws(t, a, b)
		checkTripleLaws(t, a, b, before)
		before = a
	})
}

// checkProgress compares what P5.5 says of Advance with the other functions.
func checkProgress(t *testing.T, l []api.Span, from, n int) {
	t.Helper()
	m, ok := spans.Advance(l, from, n)
	if !ok {
		if left := spans.Minutes(spans.Intersect(l, list(from, greatest))); left >= n {
			t.Fatalf("%v from %d: no minute for %d, but %d are left", l, from, n, left)
		}
		return
	}
	checkContains(t, l, m-1, true)
	if passed := spans.Minutes(spans.Intersect(l, list(from, m))); passed != n || m <= from {
		t.Fatalf("%v from %d by %d: %d, before which there are %d minutes", l, from, n, m, passed)
	}
	// On the way, there is a minute for each smaller number; the rest leads to the same one.
	half, ok := spans.Advance(l, from, n/2)
	if !ok || half >= m {
		t.Fatalf("%v from %d: %d by %d, and %d, %v by %d", l, from, m, n, half, ok, n/2)
	}
	checkAdvance(t, l, half, n-n/2, m, true)
}

// P5.5: lists of all sorts.
func TestProgressSamples(t *testing.T) {
	for _, l := range samples() {
		for _, from := range probes(l) {
			left := number(l, from, maxTime)
			for _, n := range []int{1, 2, 3, 7, 20, left / 2, left - 1, left, left + 1, maxTime, greatest} {
				if n > 0 {
					checkProgress(t, l, from, n)
				}
			}
			if _, ok := spans.Advance(l, from, max(left, 1)); ok != (left > 0) {
				t.Fatalf("%v from %d has %d minutes, but Advance finds %v", l, from, left, ok)
			}
		}
	}
}

// P5.5: longer lists, and each number of minutes.
func TestProgressRandom(t *testing.T) {
	r := rand.New(rand.NewSource(9))
	randomPairs(10, 200, func(a, b []api.Span) {
		minutes := probes(a)
		from := minutes[r.Intn(len(minutes))]
		for n := range 60 {
			checkProgress(t, slices.Concat(a, b), from, n+1)
		}
	})
}
