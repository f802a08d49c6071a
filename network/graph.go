package network

import (
	"slices"

	"wagonpool/api"
)

// pair names two neighbours in one of the two directions.
type pair [2]int

// graph is what routes use of a network: index has the line of each two neighbours in both directions, and near the neighbours of each place.
type graph struct {
	edges []api.Edge
	index map[pair]int
	near  [][]int
}

// graphOf returns the graph of a valid network.
func graphOf(n api.Network) graph {
	g := graph{n.Edges, make(map[pair]int, 2*len(n.Edges)), make([][]int, len(n.Places))}
	for i, l := range n.Edges {
		enter := func(a, b int) {
			_, known := g.index[pair{a, b}]
			if !known {
				g.near[a] = append(g.near[a], b)
			}
			if !known || l.Minutes < g.minutes(a, b) { // among equal lines, the first one stays
				g.index[pair{a, b}] = i
			}
		}
		enter(l.A, l.B)
		enter(l.B, l.A)
	}
	return g
}

// minutes returns the travel time of the line of two neighbours.
func (g graph) minutes(a, b int) int {
	return g.edges[g.index[pair{a, b}]].Minutes
}

// times returns the least times of routes from a place to all places, -1 where there is none.
func (g graph) times(from int) []int {
	l := make([]int, len(g.near))
	for p := range l {
		l[p] = -1
	}
	l[from] = 0
	waiting := []int{from} // places that were reached, but from which their neighbours were not
	for len(waiting) > 0 {
		i := nearest(waiting, l) // its time is the least, because every other way to it leads over a place that waits
		a := waiting[i]
		waiting = slices.Delete(waiting, i, i+1)
		for _, b := range g.near[a] {
			t := l[a] + g.minutes(a, b)
			if l[b] < 0 {
				waiting = append(waiting, b)
			}
			if l[b] < 0 || t < l[b] {
				l[b] = t
			}
		}
	}
	return l
}

// nearest returns the index of a place with the least time.
func nearest(places, times []int) (least int) {
	for i, p := range places {
		if times[p] < times[places[least]] {
			least = i
		}
	}
	return least
}

// next returns the least neighbour of a from which a fastest route goes on, where left are the times to its end.
func (g graph) next(a int, left []int) int {
	next := -1
	for _, b := range g.near[a] {
		if left[b]+g.minutes(a, b) == left[a] && (next < 0 || b < next) {
			next = b
		}
	}
	return next
}
