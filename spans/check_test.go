package spans_test

import (
	"testing"

	"wagonpool/api"
)

// P5.1: the chapter's example, and the borders.
func TestCheckBorders(t *testing.T) {
	for _, l := range [][]api.Span{
		nil,
		{},
		list(0, 1),
		list(0, maxTime),
		list(maxTime-1, maxTime),
		list(0, 1, 2, 3),
		list(0, 5, 6, 9),
		list(0, 5, maxTime-1, maxTime),
		list(0, 1, 2, 3, 4, 5, 7, maxTime),
	} {
		checkErrno(t, l, api.OK)
	}
	for _, l := range [][]api.Span{
		// Touching.
		list(0, 5, 5, 9),
		list(0, 1, 1, 2, 3, 4),
		list(0, 1, 2, 3, 3, 4),
		// Overlapping, nested, the same twice.
		list(0, 5, 4, 9),
		list(0, 9, 3, 4),
		list(0, 9, 3, 4, 6, 7),
		list(5, 9, 5, 9),
		// In the wrong order.
		list(6, 9, 0, 5),
		list(0, 1, 20, 30, 10, 15),
		// Empty spans.
		list(0, 0),
		list(5, 5),
		list(maxTime, maxTime),
		list(5, 4),
		list(0, 5, 7, 7),
		list(0, 5, 7, 6, 9, 10),
		// Before 0.
		list(-1, 0),
		list(-1, 5),
		list(-5, -3, 0, 5),
		// Behind MaxTime.
		list(0, maxTime+1),
		list(0, 5, 6, maxTime+1),
		list(maxTime, maxTime+1),
		list(maxTime+1, maxTime+2),
		// The least and the greatest integers.
		list(least, greatest),
		list(least, 5),
		list(5, greatest),
		list(greatest, least),
		list(least, least),
		list(greatest, greatest),
		list(0, 5, least, greatest),
		list(0, 5, greatest, least),
		list(least, least+1, 0, 5),
		list(0, 5, greatest-1, greatest),
	} {
		checkErrno(t, l, api.ErrArg)
	}
}

// checkDefinition compares Check with the definition of normal lists.
func checkDefinition(t *testing.T, l []api.Span) {
	t.Helper()
	if normal(l) {
		checkErrno(t, l, api.OK)
	} else {
		checkErrno(t, l, api.ErrArg)
	}
}

// P5.1: lists of all sorts.
func TestCheckSamples(t *testing.T) {
	for _, a := range samples() {
		checkDefinition(t, a)
		for _, b := range samples() {
			checkDefinition(t, append(append([]api.Span(nil), a...), b...))
		}
	}
}

// P5.1: all short lists around 0 and around MaxTime.
func TestCheckSmall(t *testing.T) {
	for _, first := range []int{-1, 0, 100, maxTime - 5, maxTime - 3} {
		for _, l := range smallLists(first, first+5, 2) {
			checkDefinition(t, l)
		}
		for _, l := range smallLists(first, first+3, 3) {
			checkDefinition(t, l)
		}
	}
}
