package spans_test

import (
	"slices"
	"testing"

	"wagonpool/api"
	"wagonpool/spans"
)

// behind returns a copy of l in a longer memory, and this memory.
func behind(l []api.Span) (copied, memory []api.Span) {
	memory = slices.Concat(l, list(1, 2, 3, 4, 5, 6, 7, 8))
	return memory[:len(l)], memory
}

// functions returns all functions that return lists.
func functions() map[string]func(a, b []api.Span) []api.Span {
	return map[string]func(a, b []api.Span) []api.Span{
		"Normal":    func(a, _ []api.Span) []api.Span { return spans.Normal(a) },
		"Union":     spans.Union,
		"Intersect": spans.Intersect,
		"Minus":     spans.Minus,
	}
}

// R2: no function writes to its arguments or behind them, and no result shares memory with them.
func TestArgumentsUnchanged(t *testing.T) {
	for _, a := range samples() {
		for _, b := range samples() {
			l, first := behind(a)
			k, second := behind(b)
			wantFirst, wantSecond := slices.Clone(first), slices.Clone(second)
			unchanged := func(name string) {
				t.Helper()
				checkList(t, "the memory of the first argument of "+name, first, wantFirst, a, b)
				checkList(t, "the memory of the second argument of "+name, second, wantSecond, a, b)
			}
			spans.Check(l)
			spans.Minutes(l)
			spans.Contains(l, 3)
			spans.Advance(l, 3, 2)
			unchanged("Check, Minutes, Contains or Advance")
			for name, f := range functions() {
				x := f(l, k)
				unchanged(name)
				x = x[:cap(x)]
				for i := range x {
					x[i] = api.Span{From: -77, To: -77}
				}
				unchanged(name)
			}
		}
	}
}

// R2: a result does not change if an argument or another result changes.
func TestResultsUnchanged(t *testing.T) {
	for _, a := range samples() {
		for _, b := range samples() {
			for name, f := range functions() {
				l, k := slices.Clone(a), slices.Clone(b)
				x := f(l, k)
				want := slices.Clone(x)
				clear(l)
				clear(k)
				y := f(slices.Clone(a), slices.Clone(b))
				clear(y[:cap(y)])
				checkList(t, name, x, want, a, b)
			}
		}
	}
}

// R2: one list may be both arguments.
func TestSameArgument(t *testing.T) {
	for _, l := range samples() {
		x := spans.Normal(l)
		checkList(t, "Union", spans.Union(l, l), x, l)
		checkList(t, "Intersect", spans.Intersect(l, l), x, l)
		checkList(t, "Minus", spans.Minus(l, l), nil, l)
	}
}

// R3: nil is an empty list.
func TestNil(t *testing.T) {
	none := []api.Span{}
	for _, l := range samples() {
		for name, f := range functions() {
			checkList(t, name, f(nil, l), f(none, l), l)
			checkList(t, name, f(l, nil), f(l, none), l)
		}
	}
	for _, l := range [][]api.Span{nil, none} {
		checkErrno(t, l, api.OK)
		checkNumber(t, l, 0)
		checkContains(t, l, 0, false)
		checkAdvance(t, l, 3, 0, 3, true)
		checkAdvance(t, l, 3, 1, 0, false)
		checkList(t, "Normal", spans.Normal(l), nil)
		checkList(t, "Union", spans.Union(l, list(5, 9, 7, 12)), list(5, 12))
		checkList(t, "Intersect", spans.Intersect(l, list(5, 9)), nil)
		checkList(t, "Minus", spans.Minus(l, list(5, 9)), nil)
		checkList(t, "Minus", spans.Minus(list(5, 9, 7, 12), l), list(5, 12))
	}
}

// R6: equal calls return equal results, whatever was called in between.
func TestEqualCalls(t *testing.T) {
	type result struct {
		e        api.Errno
		n, m     int
		in, left bool
	}
	call := func(l []api.Span) (r result) {
		r.e, r.n, r.in = spans.Check(l), spans.Minutes(l), spans.Contains(l, 4)
		r.m, r.left = spans.Advance(l, 4, 2)
		return r
	}
	for _, a := range samples() {
		for _, b := range samples() {
			want := call(a)
			for name, f := range functions() {
				x := f(a, b)
				f(b, a)
				call(b)
				checkList(t, name+", again,", f(a, b), x, a, b)
				checkList(t, name+", of copies,", f(slices.Clone(a), slices.Clone(b)), x, a, b)
			}
			if got := call(a); got != want {
				t.Fatalf("%v: %v, and before %v", a, got, want)
			}
		}
	}
}
