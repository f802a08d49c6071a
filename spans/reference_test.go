package spans_test

import (
	"math"
	"math/rand"
	"slices"
	"sort"
	"testing"

	"wagonpool/api"
	"wagonpool/spans"
)

// This file spells the chapter out a second time, minute by minute or end by end, and contains the samples of the tests.

const (
	maxTime  = 1073741824
	least    = math.MinInt
	greatest = math.MaxInt
)

// in tells whether minute m is an element of the set of l.
func in(l []api.Span, m int) bool {
	for _, s := range l {
		if 0 <= m && m < maxTime && s.From <= m && m < s.To {
			return true
		}
	}
	return false
}

// normal tells whether l is normal.
func normal(l []api.Span) bool {
	for i, s := range l {
		if s.From < 0 || s.To <= s.From || s.To > maxTime || i > 0 && s.From <= l[i-1].To {
			return false
		}
	}
	return true
}

// ends returns the minutes at which spans of the lists begin or end, cut to 0 to MaxTime, in increasing order. No set changes between two of them, and outside of all of them the sets are empty.
func ends(lists ...[]api.Span) (minutes []int) {
	for _, l := range lists {
		for _, s := range l {
			minutes = append(minutes, min(max(s.From, 0), maxTime), min(max(s.To, 0), maxTime))
		}
	}
	slices.Sort(minutes)
	return slices.Compact(minutes)
}

// listOf returns the normal list of the minutes for which member is true, if that changes only at ends of the lists.
func listOf(member func(m int) bool, lists ...[]api.Span) (x []api.Span) {
	minutes := ends(lists...)
	for i, m := range minutes {
		switch {
		case !member(m):
		case len(x) > 0 && x[len(x)-1].To == m:
			x[len(x)-1].To = minutes[i+1]
		default:
			x = append(x, api.Span{From: m, To: minutes[i+1]})
		}
	}
	return x
}

// number returns the number of minutes k in the set of l with from <= k < to.
func number(l []api.Span, from, to int) (n int) {
	member := func(m int) bool { return in(l, m) && from <= m && m < to }
	for _, s := range listOf(member, l, list(from, to)) {
		n += s.To - s.From
	}
	return n
}

// advance spells Advance out for positive n: the least of all minutes up to MaxTime is found by halving, because the number of minutes before it can only grow.
func advance(l []api.Span, from, n int) (m int, ok bool) {
	low := max(from, 0)
	if number(l, from, maxTime) < n {
		return 0, false
	}
	return low + sort.Search(maxTime-low, func(d int) bool { return number(l, from, low+d) >= n }), true
}

// list returns spans whose ends are given in pairs.
func list(minutes ...int) (l []api.Span) {
	for i := 0; i < len(minutes); i += 2 {
		l = append(l, api.Span{From: minutes[i], To: minutes[i+1]})
	}
	return l
}

// samples returns lists of all sorts.
func samples() [][]api.Span {
	return [][]api.Span{
		// Empty, and nothing but empty spans.
		nil,
		{},
		list(0, 0),
		list(5, 5, 7, 3, maxTime, maxTime),
		list(20, 10),
		list(greatest, least),
		list(least, least, greatest, greatest),
		// Normal.
		list(0, 1),
		list(5, 9),
		list(0, 5, 6, 9),
		list(3, 4, 8, 20, 21, 30),
		list(0, maxTime),
		list(0, 10, maxTime-10, maxTime),
		list(maxTime-1, maxTime),
		// Not sorted, touching, overlapping, nested, the same twice.
		list(20, 30, 0, 10),
		list(0, 5, 5, 9),
		list(5, 9, 0, 5),
		list(0, 7, 4, 9, 8, 12),
		list(3, 4, 0, 10, 6, 7),
		list(0, 10, 3, 4, 11, 12),
		list(2, 6, 2, 9, 2, 4),
		list(1, 9, 4, 9, 8, 9),
		list(5, 9, 5, 9),
		// With empty spans that lie within, between and beside the others.
		list(5, 9, 0, 5, 20, 10, -3, 1),
		list(0, 4, 4, 4, 5, 9),
		list(0, 9, 7, 2, 12, 12),
		list(6, 6, 7, 8, 9, 9),
		// Beyond 0 and MaxTime.
		list(-5, 5),
		list(-5, 0),
		list(-9, -5, -2, -1),
		list(-1, 0, 0, 1),
		list(maxTime-5, maxTime+5),
		list(maxTime, maxTime+5),
		list(maxTime+1, maxTime+2, maxTime+4, maxTime+9),
		list(-7, maxTime+7),
		list(least, greatest),
		list(least, 8, 10, greatest),
		list(greatest-1, greatest, least, least+1),
		list(least, -1, 3, 6, maxTime+1, greatest),
		list(maxTime/2, greatest, least, maxTime/2-1),
	}
}

// smallLists returns all lists of up to n spans whose ends lie between two minutes.
func smallLists(first, last, n int) (lists [][]api.Span) {
	lists = [][]api.Span{nil}
	for shorter := lists; n > 0; n-- {
		var longer [][]api.Span
		for _, l := range shorter {
			for from := first; from <= last; from++ {
				for to := first; to <= last; to++ {
					longer = append(longer, slices.Concat(l, list(from, to)))
				}
			}
		}
		lists = append(lists, longer...)
		shorter = longer
	}
	return lists
}

// randomList returns up to n spans of up to 12 minutes, some of them empty, around a minute; one of the ends may be far away.
func randomList(r *rand.Rand, n, around int) (l []api.Span) {
	for range r.Intn(n + 1) {
		from := around - 5 + r.Intn(60)
		l = append(l, api.Span{From: from, To: from - 2 + r.Intn(15)})
	}
	if far := []int{least, greatest, -1000, maxTime + 1000}; len(l) > 0 && r.Intn(8) == 0 {
		l[0].To = far[r.Intn(len(far))]
		if r.Intn(2) == 0 {
			l[0].From, l[0].To = l[0].To, l[0].From
		}
	}
	return l
}

// randomPairs calls f with pairs of random lists at the beginning, in the middle and at the end of time.
func randomPairs(seed int64, n int, f func(a, b []api.Span)) {
	r := rand.New(rand.NewSource(seed))
	for _, around := range []int{0, maxTime / 2, maxTime - 50} {
		for range n {
			f(randomList(r, 8, around), randomList(r, 8, around))
		}
	}
}

// probes returns minutes at, beside and far from the ends of l.
func probes(l []api.Span) (minutes []int) {
	minutes = []int{least, least + 1, -1 << 32, -1, 0, 1, 1 << 20, maxTime - 1, maxTime, maxTime + 1, 1 << 32, greatest - 1, greatest}
	for _, s := range l {
		for d := -1; d <= 1; d++ {
			minutes = append(minutes, s.From+d, s.To+d)
		}
		minutes = append(minutes, s.From/2+s.To/2)
	}
	return minutes
}

// checkList ends the test at the first wrong list: if one is wrong, thousands of them are.
func checkList(t *testing.T, what string, got, want []api.Span, arguments ...[]api.Span) {
	t.Helper()
	if !slices.Equal(got, want) {
		t.Fatalf("%s of %v: %v, want %v", what, arguments, got, want)
	}
}

func checkErrno(t *testing.T, l []api.Span, want api.Errno) {
	t.Helper()
	if e := spans.Check(l); e != want {
		t.Fatalf("Check of %v: %v, want %v", l, e, want)
	}
}

func checkNumber(t *testing.T, l []api.Span, want int) {
	t.Helper()
	if n := spans.Minutes(l); n != want {
		t.Fatalf("Minutes of %v: %d, want %d", l, n, want)
	}
}

func checkContains(t *testing.T, l []api.Span, m int, want bool) {
	t.Helper()
	if ok := spans.Contains(l, m); ok != want {
		t.Fatalf("Contains of %v and %d: %v", l, m, ok)
	}
}

func checkAdvance(t *testing.T, l []api.Span, from, n, want int, found bool) {
	t.Helper()
	if m, ok := spans.Advance(l, from, n); m != want || ok != found {
		t.Fatalf("Advance of %v from %d by %d: %d, %v, want %d, %v", l, from, n, m, ok, want, found)
	}
}
