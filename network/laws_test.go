package network_test

import (
	"math/rand"
	"slices"
	"testing"

	"wagonpool/api"
	"wagonpool/network"
)

// timesFrom returns Times from each place of a valid network.
func timesFrom(t *testing.T, n api.Network) (l [][]int) {
	t.Helper()
	for from := range n.Places {
		times, e := network.Times(n, from)
		if e != api.OK || len(times) != len(n.Places) {
			t.Fatalf("Times from %d in %v: %v, %v", from, shown(n), times, e)
		}
		l = append(l, times)
	}
	return l
}

// neighbour is a neighbour with the minutes of the line to it.
type neighbour struct{ place, minutes int }

// neighbours returns the neighbours of each place, in increasing order, as Edge finds their lines.
func neighbours(t *testing.T, n api.Network) [][]neighbour {
	t.Helper()
	near := make([][]neighbour, len(n.Places))
	for a := range near {
		for b := range near {
			if want := lineOf(n, a, b); want >= 0 {
				checkEdge(t, n, a, b, want, api.OK)
				near[a] = append(near[a], neighbour{b, n.Edges[want].Minutes})
			}
		}
	}
	return near
}

// P8.2: Times is 0 for the place itself; those of neighbours differ by at most the minutes of their line, and both or none have a route; every other time is attained from a neighbour.
func TestShortestTimes(t *testing.T) {
	for _, n := range append(someNetworks(11, 150), example(), grid(5, 7)) {
		near := neighbours(t, n)
		for from, times := range timesFrom(t, n) {
			for a, m := range times {
				attained := false
				for _, b := range near[a] {
					if m > times[b.place]+b.minutes || (m < 0) != (times[b.place] < 0) {
						t.Fatalf("Times from %d in %v: %d at %d, %d at the neighbour %d", from, shown(n), m, a, times[b.place], b.place)
					}
					attained = attained || m == times[b.place]+b.minutes
				}
				if (a == from) != (m == 0) || m < -1 || m > 0 && !attained {
					t.Fatalf("Times from %d in %v: %d at %d", from, shown(n), m, a)
				}
			}
		}
	}
}

// P8.3: Between is symmetric, 0 only for equal places, no detour is shorter, and it agrees with Times.
func TestMetric(t *testing.T) {
	for _, n := range append(someNetworks(12, 60), example(), grid(4, 6)) {
		times := timesFrom(t, n)
		for a := range n.Places {
			for b := range n.Places {
				m := times[a][b]
				if m != times[b][a] || (m == 0) != (a == b) {
					t.Fatalf("Times between %d and %d in %v: %d and %d", a, b, shown(n), m, times[b][a])
				}
				for c := range n.Places {
					if times[a][c] < 0 || times[c][b] < 0 {
						continue
					}
					if m < 0 || times[a][c]+times[c][b] < m {
						t.Fatalf("Times between %d and %d over %d in %v: %d", a, b, c, shown(n), m)
					}
				}
				if m < 0 {
					checkBetween(t, n, a, b, 0, api.ErrPath)
				} else {
					checkBetween(t, n, a, b, m, api.OK)
				}
			}
		}
	}
}

// P8.4: the time of Route is Between, no place occurs twice, and no fastest route precedes it: at each place, a smaller neighbour would take longer.
func TestRoutes(t *testing.T) {
	for _, n := range append(someNetworks(13, 100), example(), grid(5, 6)) {
		times := timesFrom(t, n)
		near := neighbours(t, n)
		for a := range n.Places {
			for b := range n.Places {
				if times[a][b] >= 0 {
					checkFastest(t, n, near, a, b, times[b])
				}
			}
		}
	}
}

// checkFastest checks the route from a to b, given the neighbours and the times from b.
func checkFastest(t *testing.T, n api.Network, near [][]neighbour, a, b int, times []int) {
	t.Helper()
	route, e := network.Route(n, a, b)
	if e != api.OK || len(route) == 0 || route[0] != a || route[len(route)-1] != b || timeOf(n, route) != times[a] {
		t.Fatalf("Route from %d to %d in %v: %v, %v", a, b, shown(n), route, e)
	}
	for i, p := range route {
		if slices.Contains(route[:i], p) {
			t.Fatalf("Route from %d to %d in %v: %v", a, b, shown(n), route)
		}
		for _, q := range near[p] {
			if p == b || q.place >= route[i+1] {
				break
			}
			if q.minutes+times[q.place] <= times[p] {
				t.Fatalf("Route from %d to %d in %v: %v, but from %d over %d is as fast", a, b, shown(n), route, p, q.place)
			}
		}
	}
}

// walk returns a list of neighbours.
func walk(r *rand.Rand, near [][]neighbour, length int) []int {
	route := []int{r.Intn(len(near))}
	for len(route) < length {
		next := near[route[len(route)-1]]
		if len(next) == 0 {
			break
		}
		route = append(route, next[r.Intn(len(next))].place)
	}
	return route
}

// P8.5: the kilometres of the shares add up to those of the lines, the railways are increasing, and the shares of two parts of a route add up to those of the whole.
func TestSharesAddUp(t *testing.T) {
	r := rand.New(rand.NewSource(14))
	for _, n := range append(someNetworks(15, 100), example(), grid(5, 6)) {
		near := neighbours(t, n)
		for range 20 {
			route := walk(r, near, 1+r.Intn(40))
			want, _ := shares(n, route)
			checkShares(t, n, route, want, api.OK)
			whole := kilometres(t, n, route)
			sum := 0
			for i := 1; i < len(route); i++ {
				sum += n.Edges[lineOf(n, route[i-1], route[i])].Km
			}
			cut := r.Intn(len(route))
			before, after := kilometres(t, n, route[:cut+1]), kilometres(t, n, route[cut:])
			for railway, km := range whole {
				sum -= km
				if km != before[railway]+after[railway] {
					t.Fatalf("Shares of %v in %v: %v, but of its parts %v and %v", route, shown(n), whole, before, after)
				}
			}
			if sum != 0 {
				t.Fatalf("Shares of %v in %v: %v, which lacks %d", route, shown(n), whole, sum)
			}
		}
	}
}

// kilometres returns the kilometres of each railway, and checks that the shares are in increasing order.
func kilometres(t *testing.T, n api.Network, route []int) (km [16]int) {
	t.Helper()
	l, e := network.Shares(n, route)
	before := -1
	for _, s := range l {
		if s.Railway <= before || s.Railway > 15 {
			t.Fatalf("Shares of %v in %v: %v", route, shown(n), l)
		}
		before = s.Railway
		km[s.Railway] = s.Km
	}
	if e != api.OK {
		t.Fatalf("Shares of %v in %v: %v", route, shown(n), e)
	}
	return km
}

// P8.6: an additional line, at any index, makes no time longer and interrupts no route.
func TestMonotonicity(t *testing.T) {
	r := rand.New(rand.NewSource(16))
	for _, n := range append(someNetworks(17, 150), example(), grid(4, 6)) {
		places := len(n.Places)
		if places < 2 {
			continue
		}
		before := timesFrom(t, n)
		for range 5 {
			more := n
			a := r.Intn(places)
			added := api.Edge{A: a, B: (a + 1 + r.Intn(places-1)) % places, Railway: r.Intn(16), Minutes: 1 + r.Intn(maxMinutes)>>r.Intn(17), Km: r.Intn(maxKm + 1)}
			more.Edges = slices.Insert(slices.Clone(n.Edges), r.Intn(len(n.Edges)+1), added)
			for from, times := range timesFrom(t, more) {
				for p, m := range times {
					if old := before[from][p]; old >= 0 && (m < 0 || m > old) {
						t.Fatalf("Times from %d to %d in %v: %d, and with the line %v: %d", from, p, shown(n), old, added, m)
					}
				}
				if m := times[added.A] - times[added.B]; max(m, -m) > added.Minutes {
					t.Fatalf("Times from %d in %v: %v, in spite of the line %v", from, shown(more), times, added)
				}
			}
		}
	}
}

// P8.6: along a chain of lines that are added one after the other, the last one first, a route exists as soon as the last one is there.
func TestRouteAppears(t *testing.T) {
	order, whole := chain(40)
	n := stations(40)
	for i := range whole.Edges {
		checkAllNoPath(t, n, order[0], order[39])
		n.Edges = append(n.Edges, whole.Edges[len(whole.Edges)-1-i])
	}
	checkRoute(t, n, order[0], order[39], order, api.OK)
}
