package network_test

import (
	"testing"

	"wagonpool/api"
)

// The chapter's examples.
func TestEdgeExamples(t *testing.T) {
	n := example()
	checkEdge(t, n, 0, 1, 0, api.OK)
	checkEdge(t, n, 1, 1, 0, api.ErrPath)
	checkEdge(t, n, 0, 4, 0, api.ErrArg)
}

// P8.1: neighbours in both directions, places that are not neighbours, and a place and itself.
func TestEdges(t *testing.T) {
	n := stations(5, line(3, 1, 4), line(2, 4, maxMinutes), line(4, 1, 1), line(1, 2, 9))
	for i, l := range n.Edges {
		checkEdge(t, n, l.A, l.B, i, api.OK)
		checkEdge(t, n, l.B, l.A, i, api.OK)
	}
	for p := range n.Places {
		checkEdge(t, n, p, p, 0, api.ErrPath)
		checkEdge(t, n, 0, p, 0, api.ErrPath)
		checkEdge(t, n, p, 0, 0, api.ErrPath)
	}
	checkEdge(t, n, 2, 3, 0, api.ErrPath) // there is a route, but no line
	checkEdge(t, n, 3, 2, 0, api.ErrPath)
}

// P8.1: of several lines between two places, the one with the least Minutes counts, then the one with the least index, whichever way round A and B are given; Times, Route and Shares use the same one.
func TestSeveralLines(t *testing.T) {
	for number := range 6 * 6 * 6 * 6 {
		n := stations(3, line(0, 2, 1))
		for i, rest := 0, number; i < 4; i, rest = i+1, rest/6 {
			l := api.Edge{A: 1, B: 2, Railway: i, Minutes: 1 + rest%3, Km: 10 * i}
			if rest%6 >= 3 {
				l.A, l.B = 2, 1
			}
			n.Edges = append(n.Edges, l)
		}
		best := lineOf(n, 1, 2)
		checkEdge(t, n, 1, 2, best, api.OK)
		checkEdge(t, n, 2, 1, best, api.OK)
		l := n.Edges[best]
		checkTimes(t, n, 1, []int{l.Minutes + 1, 0, l.Minutes}, api.OK)
		checkTimes(t, n, 2, []int{1, l.Minutes, 0}, api.OK)
		checkRoute(t, n, 1, 0, []int{1, 2, 0}, api.OK)
		checkShares(t, n, []int{1, 2}, []api.Share{{Railway: l.Railway, Km: l.Km}}, api.OK)
		checkShares(t, n, []int{2, 1}, []api.Share{{Railway: l.Railway, Km: l.Km}}, api.OK)
	}
}

// P8.1: neither the kilometres nor the railway of a line decide, but only its minutes and its index.
func TestMinutesDecide(t *testing.T) {
	n := stations(2,
		api.Edge{A: 1, B: 0, Railway: 5, Minutes: 100, Km: 0},
		api.Edge{A: 0, B: 1, Railway: 7, Minutes: 99, Km: maxKm},
		api.Edge{A: 1, B: 0, Railway: 0, Minutes: 99, Km: 1},
		api.Edge{A: 0, B: 1, Railway: 0, Minutes: 100, Km: 0})
	checkNetwork(t, n)
	checkEdge(t, n, 0, 1, 1, api.OK)
	checkEdge(t, n, 1, 0, 1, api.OK)
	checkShares(t, n, []int{0, 1, 0}, []api.Share{{Railway: 7, Km: 2 * maxKm}}, api.OK)
}

// P8.1: of the greatest number of lines between two places, the last one is the fastest, or all are equal.
func TestMostLines(t *testing.T) {
	n := stations(2)
	for i := range maxLines {
		n.Edges = append(n.Edges, line(i%2, 1-i%2, maxLines-i))
	}
	checkEdge(t, n, 0, 1, maxLines-1, api.OK)
	checkEdge(t, n, 1, 0, maxLines-1, api.OK)
	checkTimes(t, n, 0, []int{0, 1}, api.OK)
	for i := range n.Edges {
		n.Edges[i].Minutes = maxMinutes
	}
	checkEdge(t, n, 0, 1, 0, api.OK)
	checkEdge(t, n, 1, 0, 0, api.OK)
	checkTimes(t, n, 1, []int{maxMinutes, 0}, api.OK)
}
