package network_test

import (
	"math/rand"
	"slices"
	"testing"

	"wagonpool/api"
	"wagonpool/network"
)

// results are what all functions return for two places and a route.
type results struct {
	times, route []int
	shares       []api.Share
	between, at  int
	errnos       [6]api.Errno
}

func call(n api.Network, a, b int, list []int) (r results) {
	r.errnos[0] = network.Check(n)
	r.times, r.errnos[1] = network.Times(n, a)
	r.between, r.errnos[2] = network.Between(n, a, b)
	r.route, r.errnos[3] = network.Route(n, a, b)
	r.at, r.errnos[4] = network.Edge(n, a, b)
	r.shares, r.errnos[5] = network.Shares(n, list)
	return r
}

// same tells whether two results are equal; an empty list and nil are.
func same(r, s results) bool {
	lists := slices.Equal(r.times, s.times) && slices.Equal(r.route, s.route) && slices.Equal(r.shares, s.shares)
	return lists && r.between == s.between && r.at == s.at && r.errnos == s.errnos
}

// copied returns a network that shares no memory with n.
func copied(n api.Network) api.Network {
	return api.Network{Places: slices.Clone(n.Places), Edges: slices.Clone(n.Edges)}
}

// manyNetworks returns valid and invalid networks.
func manyNetworks() []api.Network {
	l := append(someNetworks(21, 60), example(), grid(6, 6), api.Network{}, stations(1), stations(5))
	for _, bad := range badNetworks() {
		l = append(l, bad...)
	}
	return l
}

// R2: no function writes to its arguments or behind them, and results share no memory with them.
func TestArgumentsUnchanged(t *testing.T) {
	r := rand.New(rand.NewSource(22))
	for _, n := range manyNetworks() {
		places := append(slices.Clone(n.Places), api.Place{Kind: 7}, api.Place{Kind: 8})
		lines := append(slices.Clone(n.Edges), line(8, 8, 8), line(9, 9, 9))
		list := []int{r.Intn(4), r.Intn(4), r.Intn(4), 77, 78}
		wantPlaces, wantLines, wantList := slices.Clone(places), slices.Clone(lines), slices.Clone(list)
		argument := api.Network{Places: places[:len(n.Places)], Edges: lines[:len(n.Edges)]}
		for range 10 {
			result := call(argument, r.Intn(4), r.Intn(4), list[:r.Intn(4)])
			clear(result.times[:cap(result.times)])
			clear(result.route[:cap(result.route)])
			clear(result.shares[:cap(result.shares)])
		}
		if !slices.Equal(places, wantPlaces) || !slices.Equal(lines, wantLines) || !slices.Equal(list, wantList) {
			t.Fatalf("the memory of %v is now %v, %v, %v", shown(n), places[:min(9, len(places))], lines[:min(9, len(lines))], list)
		}
	}
}

// R2: results stay as they are when the arguments or the results of other calls change.
func TestResultsUnchanged(t *testing.T) {
	for _, n := range manyNetworks() {
		for a := range min(5, len(n.Places)) {
			argument, list := copied(n), []int{a, 0, a}
			first, want := call(argument, a, 0, list), call(n, a, 0, []int{a, 0, a})
			clear(argument.Places)
			clear(argument.Edges)
			clear(list)
			other := call(n, a, 0, []int{a, 0, a})
			clear(other.times[:cap(other.times)])
			clear(other.route[:cap(other.route)])
			clear(other.shares[:cap(other.shares)])
			if !same(first, want) {
				t.Fatalf("%v: %v, but then %v", shown(n), want, first)
			}
		}
	}
}

// R3: nil is an empty list.
func TestNil(t *testing.T) {
	for _, n := range []api.Network{{}, {Places: []api.Place{}, Edges: []api.Edge{}}, {Places: []api.Place{}}, {Edges: make([]api.Edge, 0, 5)}} {
		checkErrno(t, n, api.OK)
		checkAllErrnos(t, n, 0, 0, api.ErrArg)
		checkShares(t, n, nil, nil, api.OK)
		checkShares(t, n, make([]int, 0, 3), nil, api.OK)
	}
	n := stations(2)
	n.Edges = []api.Edge{}
	checkTimes(t, n, 0, []int{0, -1}, api.OK)
	checkRoute(t, n, 1, 1, []int{1}, api.OK)
}

// R6: equal calls return equal results, whatever was called in between.
func TestEqualCalls(t *testing.T) {
	for _, n := range manyNetworks() {
		for a := -1; a <= min(6, len(n.Places)); a++ {
			for b := -1; b <= min(6, len(n.Places)); b++ {
				first := call(n, a, b, []int{a, b, a})
				call(example(), 0, 2, []int{0, 1, 2})
				call(n, b, a, []int{b})
				for range 3 {
					if again := call(copied(n), a, b, []int{a, b, a}); !same(again, first) {
						t.Fatalf("%d and %d in %v: %v, and before %v", a, b, shown(n), again, first)
					}
				}
			}
		}
	}
}
