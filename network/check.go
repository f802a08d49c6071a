package network

import "wagonpool/api"

// The greatest values of a line.
const (
	maxMinutes = 100000
	maxKm      = 10000
)

// between reports whether least <= a <= greatest.
func between(least, a, greatest int) bool {
	return least <= a && a <= greatest
}

// isRailway reports whether r is the number of a railway.
func isRailway(r int) bool {
	return between(0, r, api.MaxRailways-1)
}

// isPlace reports whether p is the number of a place of n.
func isPlace(n api.Network, p int) bool {
	return between(0, p, len(n.Places)-1)
}

// validPlace reports whether each field of a place has a value that it may have.
func validPlace(p api.Place) bool {
	if !between(api.Station, p.Kind, api.Shop) || !isRailway(p.Railway) {
		return false
	}
	if p.Kind == api.Interchange {
		return isRailway(p.Other) && p.Other != p.Railway
	}
	return p.Other == -1
}

// validLine reports whether a line connects two places of n, and each other field has a value that it may have.
func validLine(n api.Network, l api.Edge) bool {
	connects := isPlace(n, l.A) && isPlace(n, l.B) && l.A != l.B
	return connects && isRailway(l.Railway) && between(1, l.Minutes, maxMinutes) && between(0, l.Km, maxKm)
}

// checkCall returns the error of Check; otherwise ErrArg if one of the numbers names no place.
func checkCall(n api.Network, places ...int) api.Errno {
	if e := Check(n); e != api.OK {
		return e
	}
	for _, p := range places {
		if !isPlace(n, p) {
			return api.ErrArg
		}
	}
	return api.OK
}
