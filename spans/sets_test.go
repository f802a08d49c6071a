package spans_test

import (
	"math/rand"
	"testing"

	"wagonpool/api"
	"wagonpool/spans"
)

// P5.1: the chapter's examples.
func TestSetsExamples(t *testing.T) {
	unsorted := list(5, 9, 0, 5, 20, 10, -3, 1)
	checkList(t, "Normal", spans.Normal(unsorted), list(0, 9), unsorted)
	for _, c := range []struct {
		name       string
		f          func(a, b []api.Span) []api.Span
		a, b, want []api.Span
	}{
		{"Union", spans.Union, list(0, 5), list(6, 9), list(0, 5, 6, 9)},
		{"Union", spans.Union, list(0, 5), list(5, 9), list(0, 9)},
		{"Intersect", spans.Intersect, list(0, 10, 20, 30), list(5, 25), list(5, 10, 20, 25)},
		{"Minus", spans.Minus, list(0, 10), list(3, 4, 8, 20), list(0, 3, 4, 8)},
	} {
		checkList(t, c.name, c.f(c.a, c.b), c.want, c.a, c.b)
	}
}

// P5.1: the ends of time.
func TestNormalBorders(t *testing.T) {
	for _, c := range []struct{ l, want []api.Span }{
		{list(0, maxTime), list(0, maxTime)},
		{list(-1, maxTime+1), list(0, maxTime)},
		{list(least, greatest), list(0, maxTime)},
		{list(greatest, least), nil},
		{list(-1, 0), nil},
		{list(-1, 1), list(0, 1)},
		{list(least, 1), list(0, 1)},
		{list(least, least+1), nil},
		{list(maxTime, maxTime+1), nil},
		{list(maxTime-1, maxTime+1), list(maxTime-1, maxTime)},
		{list(maxTime-1, greatest), list(maxTime-1, maxTime)},
		{list(greatest-1, greatest), nil},
		{list(least, 5, 5, greatest), list(0, maxTime)},
		{list(6, greatest, least, 5), list(0, 5, 6, maxTime)},
	} {
		checkList(t, "Normal", spans.Normal(c.l), c.want, c.l)
		checkList(t, "Union", spans.Union(nil, c.l), c.want, c.l)
		checkList(t, "Intersect", spans.Intersect(c.l, list(least, greatest)), c.want, c.l)
		checkList(t, "Minus", spans.Minus(c.l, nil), c.want, c.l)
		checkList(t, "Minus", spans.Minus(nil, c.l), nil, c.l)
		checkList(t, "Minus", spans.Minus(c.l, list(least, greatest)), nil, c.l)
	}
}

// checkNormal compares Normal with the definition.
func checkNormal(t *testing.T, l []api.Span) {
	t.Helper()
	x := spans.Normal(l)
	checkList(t, "Normal", x, listOf(func(m int) bool { return in(l, m) }, l), l)
	checkErrno(t, x, api.OK)
}

// checkSets compares Union, Intersect and Minus with the definition.
func checkSets(t *testing.T, a, b []api.Span) {
	t.Helper()
	for _, c := range []struct {
		name   string
		got    []api.Span
		member func(m int) bool
	}{
		{"Union", spans.Union(a, b), func(m int) bool { return in(a, m) || in(b, m) }},
		{"Intersect", spans.Intersect(a, b), func(m int) bool { return in(a, m) && in(b, m) }},
		{"Minus", spans.Minus(a, b), func(m int) bool { return in(a, m) && !in(b, m) }},
	} {
		checkList(t, c.name, c.got, listOf(c.member, a, b), a, b)
		checkErrno(t, c.got, api.OK)
	}
}

// P5.1: lists of all sorts, and all pairs of them.
func TestSetsSamples(t *testing.T) {
	for _, a := range samples() {
		checkNormal(t, a)
		for _, b := range samples() {
			checkSets(t, a, b)
		}
	}
}

// P5.1: all short lists at the ends of time, and all pairs of them.
func TestSetsSmall(t *testing.T) {
	for _, first := range []int{-1, maxTime - 3} {
		for _, l := range smallLists(first, first+4, 3) {
			checkNormal(t, l)
		}
	}
	for _, first := range []int{-1, 0, maxTime - 2} {
		lists := smallLists(first, first+3, 2)
		for _, a := range lists {
			for _, b := range lists {
				checkSets(t, a, b)
			}
		}
	}
}

// P5.1: longer lists.
func TestSetsRandom(t *testing.T) {
	randomPairs(1, 5000, func(a, b []api.Span) {
		checkNormal(t, a)
		checkSets(t, a, b)
	})
}

// P5.1: lists of many spans in any order.
func TestSetsLong(t *testing.T) {
	const n = 100000
	var a, b, union, common, minus []api.Span
	for k := range n {
		m := 10 * k
		a = append(a, list(m+4, m+6, m, m+5)...)
		b = append(b, list(m+5, m+11)...)
		union = list(0, m+11)
		if k == 0 {
			common, minus = list(5, 6), list(0, 5)
			continue
		}
		common = append(common, list(m, m+1, m+5, m+6)...)
		minus = append(minus, list(m+1, m+5)...)
	}
	rand.New(rand.NewSource(2)).Shuffle(len(a), func(i, j int) { a[i], a[j] = a[j], a[i] })
	rand.New(rand.NewSource(3)).Shuffle(len(b), func(i, j int) { b[i], b[j] = b[j], b[i] })
	for _, c := range []struct {
		name      string
		got, want []api.Span
	}{
		{"Union", spans.Union(a, b), union},
		{"Intersect", spans.Intersect(a, b), common},
		{"Minus", spans.Minus(a, b), minus},
	} {
		checkList(t, c.name, c.got, c.want)
	}
	checkNumber(t, a, 6*n)
	checkAdvance(t, a, 0, 6*n, 10*n-4, true)
	checkAdvance(t, a, 0, 6*n+1, 0, false)
}
