package network_test

import (
	"math"
	"math/rand"
	"slices"
	"testing"

	"wagonpool/api"
	"wagonpool/network"
)

// This file spells the chapter out a second time, without haste, and contains the samples of the tests.

const (
	maxPlaces  = 512
	maxLines   = 2048
	maxMinutes = 100000
	maxKm      = 10000
	least      = math.MinInt
	greatest   = math.MaxInt
)

// line returns a line of railway 0 with as many kilometres as minutes, up to the greatest number.
func line(a, b, minutes int) api.Edge {
	return api.Edge{A: a, B: b, Railway: 0, Minutes: minutes, Km: min(minutes, maxKm)}
}

// stations returns a network of some stations of railway 0.
func stations(places int, lines ...api.Edge) (n api.Network) {
	for range places {
		n.Places = append(n.Places, api.Place{Kind: api.Station, Railway: 0, Other: -1})
	}
	n.Edges = lines
	return n
}

// example returns the network of the chapter's examples.
func example() api.Network {
	return stations(4,
		api.Edge{A: 0, B: 1, Railway: 2, Minutes: 10, Km: 5},
		api.Edge{A: 1, B: 2, Railway: 1, Minutes: 10, Km: 7},
		api.Edge{A: 0, B: 2, Railway: 2, Minutes: 20, Km: 9},
		api.Edge{A: 1, B: 0, Railway: 0, Minutes: 10, Km: 4})
}

// randomNetwork returns a network whose lines have few different minutes if most is small, so that many routes have the same time.
func randomNetwork(r *rand.Rand, places, lines, most int) api.Network {
	n := stations(places)
	for range lines {
		a, b := r.Intn(places), r.Intn(places)
		if a != b {
			n.Edges = append(n.Edges, api.Edge{A: a, B: b, Railway: r.Intn(16), Minutes: 1 + r.Intn(most), Km: r.Intn(maxKm+1) * r.Intn(2)})
		}
	}
	return n
}

// someNetworks returns networks of all sizes up to some 60 places: without lines, with few and with many of them.
func someNetworks(seed int64, count int) (l []api.Network) {
	r := rand.New(rand.NewSource(seed))
	for range count {
		places := 1 + r.Intn(60)>>r.Intn(4)
		lines := r.Intn(4 * places)
		most := []int{1, 2, 3, 10, 1000, maxMinutes}[r.Intn(6)]
		l = append(l, randomNetwork(r, places, lines, most))
	}
	return l
}

// lineOf returns the index of the line of two places, -1 if they are not neighbours: it sorts the lines between them.
func lineOf(n api.Network, a, b int) int {
	var between []int
	for i, l := range n.Edges {
		if l.A == a && l.B == b || l.A == b && l.B == a {
			between = append(between, i)
		}
	}
	slices.SortStableFunc(between, func(i, j int) int { return n.Edges[i].Minutes - n.Edges[j].Minutes })
	return append(between, -1)[0]
}

// timeOf returns the time of a list of places, -1 if it is no route.
func timeOf(n api.Network, route []int) (t int) {
	for i := range route[1:] {
		l := lineOf(n, route[i], route[i+1])
		if l < 0 {
			return -1
		}
		t += n.Edges[l].Minutes
	}
	return t
}

// distances returns the least times between all places, -1 without a route: more and more places are permitted on the way.
func distances(n api.Network) [][]int {
	d := make([][]int, len(n.Places))
	for a := range d {
		d[a] = slices.Repeat([]int{-1}, len(n.Places))
		d[a][a] = 0
	}
	shorten := func(a, b, t int) {
		if d[a][b] < 0 || t < d[a][b] {
			d[a][b] = t
		}
	}
	for _, l := range n.Edges {
		shorten(l.A, l.B, l.Minutes)
		shorten(l.B, l.A, l.Minutes)
	}
	for over := range d {
		for a := range d {
			if d[a][over] < 0 {
				continue
			}
			for b := range d {
				if d[over][b] >= 0 {
					shorten(a, b, d[a][over]+d[over][b])
				}
			}
		}
	}
	return d
}

// routesTo returns the fastest route from each place to b, nil where there is none, given the distances: the places are visited in the order of their distance, and whole lists are compared.
func routesTo(n api.Network, d [][]int, b int) [][]int {
	var order []int
	for p := range d {
		if d[p][b] >= 0 {
			order = append(order, p)
		}
	}
	slices.SortFunc(order, func(p, q int) int { return d[p][b] - d[q][b] })
	best := make([][]int, len(d))
	best[b] = []int{b}
	for _, p := range order {
		for _, l := range n.Edges {
			q := l.A + l.B - p
			if p != l.A && p != l.B || d[q][b] < 0 || d[q][b]+l.Minutes != d[p][b] {
				continue
			}
			list := append([]int{p}, best[q]...)
			if best[p] == nil || slices.Compare(list, best[p]) < 0 {
				best[p] = list
			}
		}
	}
	return best
}

// shares spells Shares out for a list of places of a valid network.
func shares(n api.Network, route []int) (l []api.Share, e api.Errno) {
	km := map[int][]int{}
	for i := 1; i < len(route); i++ {
		line := lineOf(n, route[i-1], route[i])
		if line < 0 {
			return nil, api.ErrPath
		}
		km[n.Edges[line].Railway] = append(km[n.Edges[line].Railway], n.Edges[line].Km)
	}
	for railway := range 16 {
		if lines := km[railway]; lines != nil {
			sum := 0
			for _, k := range lines {
				sum += k
			}
			l = append(l, api.Share{Railway: railway, Km: sum})
		}
	}
	return l, api.OK
}

func checkErrno(t *testing.T, n api.Network, want api.Errno) {
	t.Helper()
	if e := network.Check(n); e != want {
		t.Fatalf("Check of %d places and %d lines, %v: %v, want %v", len(n.Places), len(n.Edges), shown(n), e, want)
	}
}

func checkTimes(t *testing.T, n api.Network, from int, want []int, errno api.Errno) {
	t.Helper()
	if l, e := network.Times(n, from); e != errno || !slices.Equal(l, want) {
		t.Fatalf("Times from %d in %v: %v, %v, want %v, %v", from, shown(n), l, e, want, errno)
	}
}

func checkBetween(t *testing.T, n api.Network, a, b, want int, errno api.Errno) {
	t.Helper()
	if m, e := network.Between(n, a, b); e != errno || m != want {
		t.Fatalf("Between %d and %d in %v: %v, %v, want %v, %v", a, b, shown(n), m, e, want, errno)
	}
}

func checkRoute(t *testing.T, n api.Network, a, b int, want []int, errno api.Errno) {
	t.Helper()
	if l, e := network.Route(n, a, b); e != errno || !slices.Equal(l, want) {
		t.Fatalf("Route from %d to %d in %v: %v, %v, want %v, %v", a, b, shown(n), l, e, want, errno)
	}
}

func checkEdge(t *testing.T, n api.Network, a, b, want int, errno api.Errno) {
	t.Helper()
	if i, e := network.Edge(n, a, b); e != errno || i != want {
		t.Fatalf("Edge of %d and %d in %v: %v, %v, want %v, %v", a, b, shown(n), i, e, want, errno)
	}
}

func checkShares(t *testing.T, n api.Network, route []int, want []api.Share, errno api.Errno) {
	t.Helper()
	if l, e := network.Shares(n, route); e != errno || !slices.Equal(l, want) {
		t.Fatalf("Shares of %v in %v: %v, %v, want %v, %v", route[:min(20, len(route))], shown(n), l, e, want, errno)
	}
}

// shown returns the beginning of the lines of a network.
func shown(n api.Network) []api.Edge {
	return n.Edges[:min(20, len(n.Edges))]
}

// checkNetwork compares Times, Between, Route and Edge for all places of a valid network with the second spelling.
func checkNetwork(t *testing.T, n api.Network) {
	t.Helper()
	d := distances(n)
	for b := range n.Places {
		checkTimes(t, n, b, d[b], api.OK)
		routes := routesTo(n, d, b)
		for a := range n.Places {
			if d[a][b] >= 0 {
				checkBetween(t, n, a, b, d[a][b], api.OK)
				checkRoute(t, n, a, b, routes[a], api.OK)
			} else {
				checkBetween(t, n, a, b, 0, api.ErrPath)
				checkRoute(t, n, a, b, nil, api.ErrPath)
			}
			if i := lineOf(n, a, b); i >= 0 {
				checkEdge(t, n, a, b, i, api.OK)
			} else {
				checkEdge(t, n, a, b, 0, api.ErrPath)
			}
		}
	}
}
