package network_test

import (
	"math/rand"
	"slices"
	"testing"

	"wagonpool/api"
)

// The chapter's examples.
func TestRouteExamples(t *testing.T) {
	n := example()
	checkRoute(t, n, 0, 2, []int{0, 1, 2}, api.OK)
	checkRoute(t, n, 2, 2, []int{2}, api.OK)
	checkRoute(t, n, 0, 3, nil, api.ErrPath)
	checkRoute(t, n, 3, 0, nil, api.ErrPath)
}

// P8.4: among several fastest routes, the lexicographically least list counts, whatever the order and the direction of the lines.
func TestSeveralFastest(t *testing.T) {
	for _, c := range []struct {
		name   string
		places int
		lines  []api.Edge
		want   []int
	}{
		{"more places", 4, []api.Edge{line(0, 3, 30), line(0, 1, 10), line(1, 2, 10), line(2, 3, 10)}, []int{0, 1, 2, 3}},
		{"fewer places", 4, []api.Edge{line(0, 1, 20), line(1, 3, 10), line(0, 2, 10), line(2, 3, 20)}, []int{0, 1, 3}},
		{"fewer places at the end", 5, []api.Edge{line(0, 4, 10), line(4, 1, 20), line(1, 2, 10), line(4, 2, 30), line(2, 3, 1)}, []int{0, 4, 1, 2, 3}},
		{"the first difference counts", 6, []api.Edge{line(0, 1, 10), line(1, 4, 10), line(4, 5, 10), line(0, 2, 10), line(2, 3, 10), line(3, 5, 10)}, []int{0, 1, 4, 5}},
		{"not the way back", 6, []api.Edge{line(0, 2, 10), line(2, 1, 10), line(1, 5, 10), line(0, 3, 10), line(3, 4, 10), line(4, 5, 10), line(0, 4, 20)}, []int{0, 2, 1, 5}},
		{"numbers, not texts", 12, []api.Edge{line(0, 10, 10), line(10, 11, 10), line(0, 9, 10), line(9, 11, 10)}, []int{0, 9, 11}},
		{"the least neighbour is slower", 4, []api.Edge{line(0, 1, 10), line(1, 3, 11), line(0, 2, 10), line(2, 3, 10)}, []int{0, 2, 3}},
		{"the least neighbour leads nowhere", 4, []api.Edge{line(0, 1, 1), line(0, 2, 10), line(2, 3, 10)}, []int{0, 2, 3}},
		{"a slow line to the least neighbour", 4, []api.Edge{line(0, 1, 15), line(1, 3, 10), line(0, 2, 10), line(2, 3, 10), line(0, 1, 11)}, []int{0, 2, 3}},
	} {
		t.Run(c.name, func(t *testing.T) {
			r := rand.New(rand.NewSource(4))
			for range 50 {
				r.Shuffle(len(c.lines), func(i, j int) { c.lines[i], c.lines[j] = c.lines[j], c.lines[i] })
				for i, l := range c.lines {
					if r.Intn(2) == 0 {
						c.lines[i].A, c.lines[i].B = l.B, l.A
					}
				}
				checkRoute(t, stations(c.places, c.lines...), 0, c.want[len(c.want)-1], c.want, api.OK)
			}
		})
	}
}

// P8.4: the fastest route back may have other places.
func TestRouteBack(t *testing.T) {
	n := stations(6, line(0, 1, 10), line(1, 4, 10), line(4, 5, 10), line(0, 2, 10), line(2, 3, 10), line(3, 5, 10))
	checkRoute(t, n, 0, 5, []int{0, 1, 4, 5}, api.OK)
	checkRoute(t, n, 5, 0, []int{5, 3, 2, 0}, api.OK)
}

// grid returns places in rows and columns, each with lines of 7 minutes to the next ones: every way right and down is a fastest one.
func grid(rows, columns int) api.Network {
	n := stations(rows * columns)
	for p := range n.Places {
		if (p+1)%columns != 0 {
			n.Edges = append(n.Edges, line(p, p+1, 7))
		}
		if p+columns < len(n.Places) {
			n.Edges = append(n.Edges, line(p+columns, p, 7))
		}
	}
	return n
}

// P8.4: a grid has so many fastest routes that only the least numbers decide: it is fastest to go right first, and on the way back, up first.
func TestGrid(t *testing.T) {
	n := grid(16, 32)
	checkBetween(t, n, 0, 511, 46*7, api.OK)
	var there, back []int
	for p := range 32 {
		there = append(there, p)
	}
	for p := 63; p < 512; p += 32 {
		there = append(there, p)
	}
	for p := 511; p >= 0; p -= 32 {
		back = append(back, p)
	}
	for p := 30; p >= 0; p-- {
		back = append(back, p)
	}
	checkRoute(t, n, 0, 511, there, api.OK)
	checkRoute(t, n, 511, 0, back, api.OK)
	checkNetwork(t, grid(4, 5))
}

// chain returns the places in an order that is not that of their numbers, and the network of the lines from each of them to the next one, of the greatest minutes and kilometres.
func chain(places int) (order []int, n api.Network) {
	order = rand.New(rand.NewSource(5)).Perm(places)
	n = stations(places)
	for i := 1; i < places; i++ {
		n.Edges = append(n.Edges, api.Edge{A: order[i-1], B: order[i], Railway: 15, Minutes: maxMinutes, Km: maxKm})
	}
	return order, n
}

// P8.1: a route with the greatest number of places and the greatest minutes.
func TestLongestRoute(t *testing.T) {
	order, n := chain(maxPlaces)
	first, last := order[0], order[maxPlaces-1]
	want := make([]int, maxPlaces)
	for i, p := range order {
		want[p] = i * maxMinutes
	}
	checkTimes(t, n, first, want, api.OK)
	checkBetween(t, n, first, last, 51100000, api.OK)
	checkRoute(t, n, first, last, order, api.OK)
	checkShares(t, n, order, []api.Share{{Railway: 15, Km: 5110000}}, api.OK)
	slices.Reverse(order)
	checkRoute(t, n, last, first, order, api.OK)
}

// P8.1: in a ring of the greatest number of places and lines, most lines are a second one, and two fastest routes lead to the opposite place.
func TestRing(t *testing.T) {
	order, n := chain(maxPlaces)
	n.Edges = append(n.Edges, api.Edge{A: order[0], B: order[511], Railway: 15, Minutes: maxMinutes, Km: maxKm})
	for i := range maxLines - maxPlaces {
		l := n.Edges[i%maxPlaces]
		n.Edges = append(n.Edges, api.Edge{A: l.B, B: l.A, Railway: 3, Minutes: maxMinutes, Km: 1})
	}
	checkErrno(t, n, api.OK)
	there := slices.Clone(order[:257])
	back := slices.Concat(order[256:], order[:1])
	slices.Reverse(back)
	checkBetween(t, n, order[0], order[255], 255*maxMinutes, api.OK)
	checkRoute(t, n, order[0], order[255], there[:256], api.OK)
	checkBetween(t, n, order[0], order[257], 255*maxMinutes, api.OK)
	checkRoute(t, n, order[0], order[257], back[:256], api.OK)
	checkBetween(t, n, order[0], order[256], 256*maxMinutes, api.OK)
	if slices.Compare(back, there) < 0 {
		there, back = back, there
	}
	checkRoute(t, n, order[0], order[256], there, api.OK)
	checkShares(t, n, there, []api.Share{{Railway: 15, Km: 256 * maxKm}}, api.OK)
}
