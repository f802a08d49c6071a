package network_test

import (
	"math/rand"
	"slices"
	"testing"

	"wagonpool/api"
)

// The chapter's examples.
func TestTimesExamples(t *testing.T) {
	n := example()
	checkTimes(t, n, 0, []int{0, 10, 20, -1}, api.OK)
	checkTimes(t, n, 3, []int{-1, -1, -1, 0}, api.OK)
	checkBetween(t, n, 0, 2, 20, api.OK)
	checkBetween(t, n, 2, 2, 0, api.OK)
	checkBetween(t, n, 0, 3, 0, api.ErrPath)
	checkBetween(t, n, 3, 0, 0, api.ErrPath)
}

// P8.1: networks without places, without lines, with one place.
func TestSmallestNetworks(t *testing.T) {
	checkNetwork(t, api.Network{})
	checkTimes(t, stations(1), 0, []int{0}, api.OK)
	checkBetween(t, stations(1), 0, 0, 0, api.OK)
	checkRoute(t, stations(1), 0, 0, []int{0}, api.OK)
	checkEdge(t, stations(1), 0, 0, 0, api.ErrPath)
	for places := range 9 {
		checkNetwork(t, stations(places))
	}
	checkTimes(t, stations(3), 1, []int{-1, 0, -1}, api.OK)
}

// P8.1: networks that fall into several parts, in which place p belongs to the part p % parts.
func TestParts(t *testing.T) {
	for parts := 1; parts <= 4; parts++ {
		n := stations(13)
		for a := range n.Places {
			for b := range a {
				if a%parts == b%parts {
					n.Edges = append(n.Edges, line(b, a, 1+(a*a+7*b)%5))
				}
			}
		}
		checkNetwork(t, n)
		for other := 1; other < parts; other++ {
			checkAllNoPath(t, n, 0, other)
			checkAllNoPath(t, n, other, 12-12%parts)
		}
	}
}

func checkAllNoPath(t *testing.T, n api.Network, a, b int) {
	t.Helper()
	checkBetween(t, n, a, b, 0, api.ErrPath)
	checkRoute(t, n, a, b, nil, api.ErrPath)
	checkEdge(t, n, a, b, 0, api.ErrPath)
	checkShares(t, n, []int{a, b}, nil, api.ErrPath)
}

// simpleRoutes returns all routes between two places on which no place occurs twice, as lists of places.
func simpleRoutes(n api.Network, route []int, b int) (l [][]int) {
	last := route[len(route)-1]
	if last == b {
		return [][]int{slices.Clone(route)}
	}
	for p := range n.Places {
		if lineOf(n, last, p) >= 0 && !slices.Contains(route, p) {
			l = append(l, simpleRoutes(n, append(route, p), b)...)
		}
	}
	return l
}

// checkAgainstAllRoutes compares Between and Route with the least of all routes. One on which a place occurs twice is never the fastest, because each line takes time.
func checkAgainstAllRoutes(t *testing.T, n api.Network) {
	t.Helper()
	for a := range n.Places {
		for b := range n.Places {
			routes := simpleRoutes(n, []int{a}, b)
			if routes == nil {
				checkBetween(t, n, a, b, 0, api.ErrPath)
				checkRoute(t, n, a, b, nil, api.ErrPath)
				continue
			}
			slices.SortFunc(routes, func(x, y []int) int {
				if d := timeOf(n, x) - timeOf(n, y); d != 0 {
					return d
				}
				return slices.Compare(x, y)
			})
			checkBetween(t, n, a, b, timeOf(n, routes[0]), api.OK)
			checkRoute(t, n, a, b, routes[0], api.OK)
		}
	}
}

// P8.1: all networks of four places with at most one line of one to three minutes between each two of them.
func TestAllNetworks(t *testing.T) {
	for number := range 1 << 12 {
		n := stations(4)
		for b := range 4 {
			for a := range b {
				minutes := number >> (b * (b - 1)) >> (2 * a) & 3
				switch {
				case minutes > 0 && (number+a+b)%2 == 0:
					n.Edges = append(n.Edges, line(a, b, minutes))
				case minutes > 0:
					n.Edges = append(n.Edges, line(b, a, minutes))
				}
			}
		}
		checkAgainstAllRoutes(t, n)
		checkNetwork(t, n)
	}
}

// P8.1: random networks of few places, with lines in both directions between the same places.
func TestSmallNetworks(t *testing.T) {
	r := rand.New(rand.NewSource(1))
	for range 400 {
		n := randomNetwork(r, 2+r.Intn(5), r.Intn(14), []int{1, 2, 4, maxMinutes}[r.Intn(4)])
		checkAgainstAllRoutes(t, n)
		checkNetwork(t, n)
	}
}

// P8.1: random networks of some places.
func TestSomeNetworks(t *testing.T) {
	for _, n := range someNetworks(2, 60) {
		checkNetwork(t, n)
	}
}

// P8.1: random networks of the greatest size: few and many different minutes, one part and many.
func TestGreatestNetworks(t *testing.T) {
	r := rand.New(rand.NewSource(3))
	for _, most := range []int{1, 3, maxMinutes} {
		for _, lines := range []int{300, maxLines} {
			n := randomNetwork(r, maxPlaces, lines, most)
			d := distances(n)
			for range 10 {
				b := r.Intn(maxPlaces)
				checkTimes(t, n, b, d[b], api.OK)
				routes := routesTo(n, d, b)
				for range 20 {
					a := r.Intn(maxPlaces)
					if routes[a] == nil {
						checkAllNoPath(t, n, a, b)
						continue
					}
					checkBetween(t, n, a, b, d[a][b], api.OK)
					checkRoute(t, n, a, b, routes[a], api.OK)
				}
			}
		}
	}
}
