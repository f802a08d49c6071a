package network_test

import (
	"math/rand"
	"slices"
	"testing"

	"wagonpool/api"
)

// The chapter's examples.
func TestSharesExamples(t *testing.T) {
	n := example()
	checkShares(t, n, []int{0, 1, 2}, []api.Share{{Railway: 1, Km: 7}, {Railway: 2, Km: 5}}, api.OK)
	checkShares(t, n, []int{2, 0, 2}, []api.Share{{Railway: 2, Km: 18}}, api.OK)
	checkShares(t, n, []int{0, 3}, nil, api.ErrPath)
}

// P8.1: a list of fewer than two places has no shares.
func TestNoShares(t *testing.T) {
	for _, n := range []api.Network{{}, stations(1), example(), stations(maxPlaces)} {
		checkShares(t, n, nil, nil, api.OK)
		checkShares(t, n, []int{}, nil, api.OK)
		for p := range n.Places {
			checkShares(t, n, []int{p}, nil, api.OK)
		}
	}
}

// P8.1: consecutive places that are equal or not neighbours, wherever they stand.
func TestInterrupted(t *testing.T) {
	n := example()
	for _, route := range [][]int{{0, 0}, {3, 3}, {0, 3}, {3, 0}, {0, 0, 1}, {0, 1, 1}, {0, 1, 1, 2}, {0, 1, 2, 3}, {3, 0, 1, 2}, {1, 0, 3, 0, 1}, {3, 3, 3, 3}} {
		checkShares(t, n, route, nil, api.ErrPath)
		for _, bad := range []int{-1, 4, least, greatest} {
			checkShares(t, n, append(slices.Clone(route), bad), nil, api.ErrArg)
			checkShares(t, n, append([]int{bad}, route...), nil, api.ErrArg)
		}
	}
}

// P8.1: each railway of a line has one share, also where it has no kilometres; they are in increasing order.
func TestSharesOfRailways(t *testing.T) {
	n := stations(5,
		api.Edge{A: 0, B: 1, Railway: 9, Minutes: 1, Km: 0},
		api.Edge{A: 2, B: 1, Railway: 15, Minutes: 1, Km: 3},
		api.Edge{A: 2, B: 3, Railway: 0, Minutes: 1, Km: 0},
		api.Edge{A: 4, B: 3, Railway: 9, Minutes: 1, Km: maxKm})
	checkShares(t, n, []int{0, 1}, []api.Share{{Railway: 9, Km: 0}}, api.OK)
	checkShares(t, n, []int{1, 0, 1, 0}, []api.Share{{Railway: 9, Km: 0}}, api.OK)
	checkShares(t, n, []int{0, 1, 2, 3, 4}, []api.Share{{Railway: 0, Km: 0}, {Railway: 9, Km: maxKm}, {Railway: 15, Km: 3}}, api.OK)
	checkShares(t, n, []int{4, 3, 2, 1}, []api.Share{{Railway: 0, Km: 0}, {Railway: 9, Km: maxKm}, {Railway: 15, Km: 3}}, api.OK)
	checkShares(t, n, []int{1, 2, 1, 2, 3, 2}, []api.Share{{Railway: 0, Km: 0}, {Railway: 15, Km: 9}}, api.OK)
	all := stations(17)
	var route []int
	var want []api.Share
	for railway := range 16 {
		all.Edges = append(all.Edges, api.Edge{A: railway, B: railway + 1, Railway: 15 - railway, Minutes: 1, Km: 100 - railway})
		want = append(want, api.Share{Railway: railway, Km: 85 + railway})
	}
	for p := range 17 {
		route = append(route, p)
	}
	checkShares(t, all, route, want, api.OK)
	slices.Reverse(route)
	checkShares(t, all, route, want, api.OK)
}

// P8.1: a list of places is a route even if it is not the fastest one.
func TestSlowRoute(t *testing.T) {
	n := stations(3, line(0, 1, 100), line(0, 2, 1), line(2, 1, 1))
	checkShares(t, n, []int{0, 1}, []api.Share{{Railway: 0, Km: 100}}, api.OK)
	checkShares(t, n, []int{0, 2, 1}, []api.Share{{Railway: 0, Km: 2}}, api.OK)
}

// P8.1: all lists of up to four places of small networks, and random ones.
func TestAllLists(t *testing.T) {
	r := rand.New(rand.NewSource(6))
	for range 40 {
		n := randomNetwork(r, 2+r.Intn(4), r.Intn(14), 3)
		lists := [][]int{nil}
		for i := 0; i < len(lists) && len(lists[i]) < 4; i++ {
			want, e := shares(n, lists[i])
			checkShares(t, n, lists[i], want, e)
			for p := range n.Places {
				lists = append(lists, append(slices.Clone(lists[i]), p))
			}
		}
	}
}

// P8.1: a route may visit a place more than once, and be very long.
func TestLongWalk(t *testing.T) {
	n := example()
	route := slices.Repeat([]int{0, 1, 2}, 100000)
	checkShares(t, n, route, []api.Share{{Railway: 1, Km: 700000}, {Railway: 2, Km: 5*100000 + 9*99999}}, api.OK)
	checkShares(t, n, append(route, 3), nil, api.ErrPath)
	checkShares(t, n, append(route, -1), nil, api.ErrArg)
}
