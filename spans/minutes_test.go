package spans_test

import (
	"math/rand"
	"testing"

	"wagonpool/api"
)

// P5.2: the chapter's examples.
func TestMinutesExamples(t *testing.T) {
	checkNumber(t, list(0, 10, 5, 15), 15)
	checkContains(t, list(-5, 5), -1, false)
	checkContains(t, list(-5, 5), 0, true)
	l := list(0, 10, 20, 30)
	checkAdvance(t, l, 5, 7, 22, true)
	checkAdvance(t, l, 5, 0, 5, true)
	checkAdvance(t, l, 5, 16, 0, false)
}

// P5.2: the ends of time.
func TestMinutesBorders(t *testing.T) {
	for _, l := range [][]api.Span{list(0, maxTime), list(-1, maxTime+1), list(least, greatest), list(7, greatest, least, 7)} {
		checkNumber(t, l, maxTime)
		for _, m := range []int{least, -maxTime, -1, maxTime, maxTime + 1, greatest} {
			checkContains(t, l, m, false)
		}
		for _, m := range []int{0, 1, 6, 7, maxTime - 1} {
			checkContains(t, l, m, true)
		}
		checkAdvance(t, l, least, maxTime, maxTime, true)
		checkAdvance(t, l, least, maxTime+1, 0, false)
		checkAdvance(t, l, maxTime-1, 1, maxTime, true)
		checkAdvance(t, l, maxTime, 1, 0, false)
		checkAdvance(t, l, greatest, greatest, 0, false)
	}
	for _, l := range [][]api.Span{nil, {}, list(5, 5), list(greatest, least), list(least, 0, maxTime, greatest)} {
		checkNumber(t, l, 0)
		for _, m := range []int{least, -1, 0, 5, maxTime - 1, maxTime, greatest} {
			checkContains(t, l, m, false)
			checkAdvance(t, l, m, 1, 0, false)
			checkAdvance(t, l, m, 0, m, true)
		}
	}
}

// P5.2: no minutes at all, wherever from lies, and a negative number of them.
func TestAdvanceNothing(t *testing.T) {
	for _, l := range samples() {
		for _, from := range probes(l) {
			checkAdvance(t, l, from, 0, from, true)
			for _, n := range []int{-1, -2, -maxTime, least + 1, least} {
				checkAdvance(t, l, from, n, 0, false)
			}
		}
	}
}

// P5.2: from inside, between, before and behind the spans, with exactly the minutes that are left, and one more.
func TestAdvancePositions(t *testing.T) {
	l := list(20, 30, 10, 15, 12, 14, 25, 25)
	for _, c := range []struct{ from, left int }{
		{least, 15}, {-1, 15}, {0, 15}, {9, 15}, {10, 15}, {11, 14}, {14, 11}, {15, 10}, {17, 10}, {19, 10}, {20, 10}, {21, 9}, {29, 1},
	} {
		checkAdvance(t, l, c.from, c.left, 30, true)
		checkAdvance(t, l, c.from, c.left+1, 0, false)
		checkAdvance(t, l, c.from, greatest, 0, false)
		if c.left > 10 {
			checkAdvance(t, l, c.from, c.left-10, 15, true)
			checkAdvance(t, l, c.from, c.left-9, 21, true)
		}
	}
	for _, from := range []int{30, 31, maxTime - 1, maxTime, maxTime + 1, greatest} {
		checkAdvance(t, l, from, 1, 0, false)
		checkAdvance(t, l, from, 0, from, true)
	}
}

// byMinute spells Advance out for sets without minutes from last on.
func byMinute(l []api.Span, from, n, last int) (m int, ok bool) {
	passed := 0
	for m = from; m <= max(from, last); m++ {
		if passed == n {
			return m, true
		}
		if in(l, m) {
			passed++
		}
	}
	return 0, false
}

// P5.2: all short lists at the ends of time, minute by minute.
func TestMinutesSmall(t *testing.T) {
	for _, first := range []int{-1, maxTime - 3} {
		last := first + 4
		for _, l := range smallLists(first, last, 2) {
			n := 0
			for from := first - 2; from <= last+2; from++ {
				checkContains(t, l, from, in(l, from))
				if in(l, from) {
					n++
				}
				for left := -1; left <= 6; left++ {
					m, ok := byMinute(l, from, left, last)
					checkAdvance(t, l, from, left, m, ok)
				}
			}
			checkNumber(t, l, n)
		}
	}
}

// checkMinutes compares Minutes, Contains and Advance with the definition.
func checkMinutes(t *testing.T, l []api.Span, minutes []int) {
	t.Helper()
	checkNumber(t, l, number(l, 0, maxTime))
	for _, from := range minutes {
		checkContains(t, l, from, in(l, from))
		left := number(l, from, maxTime)
		for _, n := range []int{1, 2, 5, left / 2, left - 1, left, left + 1, maxTime, greatest} {
			if n > 0 {
				m, ok := advance(l, from, n)
				checkAdvance(t, l, from, n, m, ok)
			}
		}
	}
}

// P5.2: lists of all sorts.
func TestMinutesSamples(t *testing.T) {
	for _, l := range samples() {
		checkMinutes(t, l, probes(l))
	}
}

// P5.2: longer lists.
func TestMinutesRandom(t *testing.T) {
	r := rand.New(rand.NewSource(4))
	randomPairs(5, 100, func(a, b []api.Span) {
		for _, l := range [][]api.Span{a, append(a, b...)} {
			minutes := probes(l)
			checkMinutes(t, l, []int{minutes[r.Intn(len(minutes))], minutes[r.Intn(len(minutes))]})
		}
	})
}
