package fleet

import (
	"wagonpool/api"
	"wagonpool/calendar"
	"wagonpool/sign"
)

// The greatest numbers of elements, and the greatest values of their fields.
const (
	maxSwaps   = 1024
	maxWashes  = 4096
	maxMeasure = 1000000 // of Load, Tare, Length and Brake
	maxGauge   = 7
	maxWorth   = 1 << 40
	maxCost    = 1000000000
	maxMinutes = 100000 // of a wash
	maxShift   = 1000   // of a reader's clock
)

// firstError returns the error of the first check that finds one. Those after it are not made, because they may rely on the ones before them.
func firstError(checks ...func() api.Errno) api.Errno {
	for _, check := range checks {
		if e := check(); e != api.OK {
			return e
		}
	}
	return api.OK
}

// require returns a check that finds an error unless a condition holds.
func require(holds bool, otherwise api.Errno) func() api.Errno {
	return func() api.Errno {
		if !holds {
			return otherwise
		}
		return api.OK
	}
}

// each returns a check that finds ErrArg unless all elements of a list are valid.
func each[T any](list []T, valid func(T) bool) func() api.Errno {
	return func() api.Errno {
		for _, x := range list {
			if !valid(x) {
				return api.ErrArg
			}
		}
		return api.OK
	}
}

// between reports whether least <= a <= greatest.
func between(least, a, greatest int) bool {
	return least <= a && a <= greatest
}

// isIndex reports whether i is the index of an element of a list with n elements.
func isIndex(i, n int) bool {
	return between(0, i, n-1)
}

// isClass reports whether c is a commodity class.
func isClass(c int) bool {
	return isIndex(c, api.MaxClasses)
}

// isType reports whether t is the index of a type of f.
func isType(f api.Fleet, t int) bool {
	return isIndex(t, len(f.Types))
}

// isPlace reports whether i is the index of a place of p.
func isPlace(p api.Pool, i int) bool {
	return isIndex(i, len(p.Network.Places))
}

// isRailway reports whether r is the index of a railway of p.
func isRailway(p api.Pool, r int) bool {
	return isIndex(r, len(p.Railways))
}

// validType reports whether each field of a type has a value that it may have; every set of classes is valid.
func validType(t api.WagonType) bool {
	for _, measure := range [...]int{t.Load, t.Tare, t.Length, t.Brake} {
		if !between(0, measure, maxMeasure) {
			return false
		}
	}
	return between(0, t.Gauge, maxGauge) && between(1, t.Life, api.MaxTime) && between(0, t.Floor, 100)
}

// validWagon reports whether each field of a wagon of f has a value that it may have.
func validWagon(f api.Fleet, w api.Wagon) bool {
	numbers := isType(f, w.Type) && isIndex(w.Owner, api.MaxOwners) && isIndex(w.Home, api.MaxPlaces)
	return numbers && between(0, w.Built, api.MaxTime) && between(0, w.Worth, maxWorth)
}

// validSwap reports whether a swap connects two types of f, at a cost that it may have.
func validSwap(f api.Fleet, s api.Swap) bool {
	return isType(f, s.Wanted) && isType(f, s.Given) && s.Wanted != s.Given && between(0, s.Cost, maxCost)
}

// newWash returns a function that reports whether a wash is valid, and no valid one that it was called with before has the same From and To.
func newWash() func(w api.Wash) bool {
	var known [api.MaxClasses][api.MaxClasses]bool
	return func(w api.Wash) bool {
		if !isClass(w.From) || !isClass(w.To) || w.From == w.To || !between(0, w.Minutes, maxMinutes) || known[w.From][w.To] {
			return false
		}
		known[w.From][w.To] = true
		return true
	}
}

// validRailway reports whether a railway has a valid key and a valid calendar.
func validRailway(r api.RailwayInfo) bool {
	return sign.Valid(r.Key) && calendar.Check(r.Calendar) == api.OK
}

// validReader reports whether a reader stands at a place of p, and its clock may be between its bounds.
func validReader(p api.Pool, r api.Reader) bool {
	return isPlace(p, r.Place) && -maxShift <= r.Low && r.Low <= r.High && r.High <= maxShift
}

// validShipper reports whether a shipper has a siding of p.
func validShipper(p api.Pool, s api.Shipper) bool {
	return isPlace(p, s.Place) && p.Network.Places[s.Place].Kind == api.Siding
}

// knownRailways reports whether the railways of a place are railways of p; only an interchange has two.
func knownRailways(p api.Pool, l api.Place) bool {
	return isRailway(p, l.Railway) && (l.Kind != api.Interchange || isRailway(p, l.Other))
}
