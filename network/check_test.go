package network_test

import (
	"slices"
	"testing"

	"wagonpool/api"
)

// samples are around the bounds of all fields, and the least and the greatest integers.
var samples = []int{least, least + 1, -maxMinutes, -17, -2, -1, 0, 1, 2, 3, 4, 5, 6, 14, 15, 16, 17, 9999, maxKm, maxKm + 1, maxMinutes - 1, maxMinutes, maxMinutes + 1, 1 << 32, 1<<32 + 1, greatest - 1, greatest}

// isPlace spells out which places are valid.
func isPlace(p api.Place) bool {
	switch p.Kind {
	case 1, 2, 4, 5:
		return p.Railway >= 0 && p.Railway <= 15 && p.Other == -1
	case 3:
		return p.Railway >= 0 && p.Railway <= 15 && p.Other >= 0 && p.Other <= 15 && p.Other != p.Railway
	}
	return false
}

// isLine spells out which lines are valid in a network.
func isLine(l api.Edge, places int) bool {
	for _, x := range [][3]int{{0, l.A, places - 1}, {0, l.B, places - 1}, {0, l.Railway, 15}, {1, l.Minutes, maxMinutes}, {0, l.Km, maxKm}} {
		if x[1] < x[0] || x[1] > x[2] {
			return false
		}
	}
	return l.A != l.B
}

// errno returns OK or ErrArg.
func errno(valid bool) api.Errno {
	if valid {
		return api.OK
	}
	return api.ErrArg
}

// P8.1: the numbers of places and of lines.
func TestCheckLimits(t *testing.T) {
	many := slices.Repeat([]api.Edge{line(0, 1, 5)}, maxLines+1)
	for _, c := range []struct {
		places, lines int
		want          api.Errno
	}{
		{0, 0, api.OK}, {1, 0, api.OK}, {2, 1, api.OK},
		{maxPlaces - 1, 0, api.OK}, {maxPlaces, 0, api.OK}, {maxPlaces, maxLines, api.OK}, {2, maxLines, api.OK}, {2, maxLines - 1, api.OK},
		{maxPlaces + 1, 0, api.ErrLimit}, {maxPlaces + 1, maxLines, api.ErrLimit},
		{2, maxLines + 1, api.ErrLimit}, {maxPlaces, maxLines + 1, api.ErrLimit}, {maxPlaces + 1, maxLines + 1, api.ErrLimit},
	} {
		checkErrno(t, stations(c.places, many[:c.lines]...), c.want)
	}
	checkErrno(t, stations(10000), api.ErrLimit)
	checkErrno(t, stations(2, slices.Repeat(many, 20)...), api.ErrLimit)
}

// P8.1: each combination of the fields of a place, at the beginning, in the middle and at the end.
func TestCheckPlaces(t *testing.T) {
	for at := range 3 {
		for _, kind := range samples {
			for _, railway := range samples {
				for _, other := range samples {
					n := stations(3, line(0, 1, 5))
					n.Places[at] = api.Place{Kind: kind, Railway: railway, Other: other}
					checkErrno(t, n, errno(isPlace(n.Places[at])))
				}
			}
		}
	}
	for kind := range 7 {
		for railway := -1; railway <= 16; railway++ {
			for other := -2; other <= 16; other++ {
				p := api.Place{Kind: kind, Railway: railway, Other: other}
				checkErrno(t, api.Network{Places: []api.Place{p}}, errno(isPlace(p)))
			}
		}
	}
}

// P8.1: all pairs of places of a line, and each value of its other fields, at the beginning, in the middle and at the end.
func TestCheckLines(t *testing.T) {
	check := func(places int, l api.Edge) {
		t.Helper()
		for at := range 3 {
			n := stations(places, line(0, 1, 5), line(0, 1, 5), line(1, 0, 5))
			n.Edges[at] = l
			checkErrno(t, n, errno(isLine(l, places)))
		}
	}
	for _, a := range samples {
		for _, b := range samples {
			for _, places := range []int{2, 3, 6, 16} {
				check(places, line(a, b, 5))
			}
		}
		check(3, api.Edge{A: 0, B: 2, Railway: a, Minutes: 5, Km: 5})
		check(3, api.Edge{A: 0, B: 2, Railway: 3, Minutes: a, Km: 5})
		check(3, api.Edge{A: 0, B: 2, Railway: 3, Minutes: 5, Km: a})
		check(3, api.Edge{A: 0, B: 2, Railway: a, Minutes: a, Km: a})
	}
	for railway := -1; railway <= 16; railway++ {
		check(2, api.Edge{A: 1, B: 0, Railway: railway, Minutes: 1, Km: 0})
		check(2, api.Edge{A: 1, B: 0, Railway: railway, Minutes: maxMinutes, Km: maxKm})
	}
	for _, places := range []int{0, 1} {
		for _, l := range []api.Edge{line(0, 0, 5), line(0, 1, 5), line(1, 0, 5), line(-1, 0, 5), {}} {
			checkErrno(t, stations(places, l), api.ErrArg)
		}
	}
	checkErrno(t, stations(maxPlaces, line(maxPlaces-1, 0, 5), line(0, maxPlaces-1, 5)), api.OK)
	checkErrno(t, stations(maxPlaces, line(maxPlaces, 0, 5)), api.ErrArg)
	checkErrno(t, stations(maxPlaces, line(0, maxPlaces, 5)), api.ErrArg)
}

// badNetworks returns a network for each error of Check, and networks with several errors.
func badNetworks() map[api.Errno][]api.Network {
	badPlace := api.Place{Kind: api.Interchange, Railway: 3, Other: 3}
	limit := []api.Network{stations(maxPlaces + 1), stations(2, slices.Repeat([]api.Edge{line(0, 1, 5)}, maxLines+1)...)}
	for _, n := range []api.Network{stations(maxPlaces+1, line(0, 0, 5)), stations(2, slices.Repeat([]api.Edge{line(0, 1, 0)}, maxLines+1)...)} {
		n.Places[0] = badPlace
		limit = append(limit, n)
	}
	arg := []api.Network{stations(0, line(0, 1, 5)), stations(2, line(0, 0, 5)), stations(2, line(0, 1, 0)), stations(2, line(0, 1, 5), line(0, 2, 5))}
	for at := range 2 {
		n := stations(2, line(0, 1, 5))
		n.Places[at] = badPlace
		arg = append(arg, n)
	}
	return map[api.Errno][]api.Network{api.ErrLimit: limit, api.ErrArg: arg}
}

// checkAllErrnos checks that all functions but Check return an error for these places.
func checkAllErrnos(t *testing.T, n api.Network, a, b int, want api.Errno) {
	t.Helper()
	checkTimes(t, n, a, nil, want)
	checkBetween(t, n, a, b, 0, want)
	checkRoute(t, n, a, b, nil, want)
	checkEdge(t, n, a, b, 0, want)
	checkShares(t, n, []int{a, b}, nil, want)
}

// P8.1: the error of Check comes before all others.
func TestCheckComesFirst(t *testing.T) {
	for want, networks := range badNetworks() {
		for _, n := range networks {
			checkErrno(t, n, want)
			for _, a := range []int{0, 1, 2, -1, len(n.Places), least, greatest} {
				for _, b := range []int{0, 1, 2, -1, len(n.Places), least, greatest} {
					checkAllErrnos(t, n, a, b, want)
				}
			}
			checkShares(t, n, nil, nil, want)
			checkShares(t, n, []int{0}, nil, want)
		}
	}
}

// P8.1: a number that names no place is an error wherever it stands, and comes before ErrPath.
func TestNoPlace(t *testing.T) {
	for _, n := range []api.Network{{}, stations(1), stations(4), example(), stations(maxPlaces, line(0, 511, 5))} {
		for _, bad := range []int{least, least + 1, -1 << 32, -2, -1, len(n.Places), len(n.Places) + 1, 1 << 32, greatest - 1, greatest} {
			checkAllErrnos(t, n, bad, bad, api.ErrArg)
			checkShares(t, n, []int{bad}, nil, api.ErrArg)
			for good := range min(4, len(n.Places)) {
				checkAllErrnos(t, n, bad, good, api.ErrArg)
				checkBetween(t, n, good, bad, 0, api.ErrArg)
				checkRoute(t, n, good, bad, nil, api.ErrArg)
				checkEdge(t, n, good, bad, 0, api.ErrArg)
				checkShares(t, n, []int{good, bad}, nil, api.ErrArg)
				checkShares(t, n, []int{good, good, good, bad}, nil, api.ErrArg)
				checkShares(t, n, []int{good, good, bad, good}, nil, api.ErrArg)
			}
		}
	}
}

// P8.1: the zero values of a place and of a line are not valid.
func TestCheckZero(t *testing.T) {
	for _, n := range []api.Network{{Places: make([]api.Place, 1)}, {Edges: make([]api.Edge, 1)}, {Places: make([]api.Place, maxPlaces), Edges: make([]api.Edge, maxLines)}} {
		checkErrno(t, n, api.ErrArg)
	}
}
