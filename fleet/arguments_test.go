package fleet_test

import (
	"math/rand"
	"reflect"
	"slices"
	"testing"

	"wagonpool/api"
	"wagonpool/fleet"
)

// results are what all functions return for a pool and three numbers.
type results struct {
	given        []api.Swap
	clean, worth int
	errnos       [6]api.Errno
}

func call(p api.Pool, i, j, k int) (r results) {
	f := p.Fleet
	r.errnos[0] = fleet.Check(f)
	r.errnos[1] = fleet.CheckPool(p)
	r.errnos[2] = fleet.Fits(f, i, j, k)
	r.given, r.errnos[3] = fleet.Given(f, i)
	r.clean, r.errnos[4] = fleet.Clean(f, i, j)
	r.worth, r.errnos[5] = fleet.Worth(f, i, k)
	return r
}

// same tells whether two results are equal; an empty list and nil are.
func same(r, s results) bool {
	return slices.Equal(r.given, s.given) && r.clean == s.clean && r.worth == s.worth && r.errnos == s.errnos
}

// manyPools returns valid and invalid pools.
func manyPools() (l []api.Pool) {
	l = append(l, examplePool(), api.Pool{})
	fleets := append(someFleets(101, 40), example(), crowded(), threes())
	for _, bad := range badFleets() {
		fleets = append(fleets, bad...)
	}
	for _, f := range fleets {
		p := examplePool()
		p.Fleet = f
		l = append(l, p)
	}
	for _, s := range spoils() {
		p := copied(examplePool())
		s.apply(&p)
		l = append(l, p)
	}
	return l
}

// behind returns a list equal to l, which is the beginning of a longer one.
func behind[T any](l []T) []T {
	long := make([]T, len(l)+3)
	copy(long, l)
	return long[:len(l)]
}

// R2: no function writes to its arguments or behind them, not even through its results.
func TestArgumentsUnchanged(t *testing.T) {
	r := rand.New(rand.NewSource(102))
	for _, p := range manyPools() {
		want := copied(p)
		argument := api.Pool{
			Network:  api.Network{Places: behind(p.Network.Places), Edges: behind(p.Network.Edges)},
			Fleet:    api.Fleet{Types: behind(p.Fleet.Types), Wagons: behind(p.Fleet.Wagons), Swaps: behind(p.Fleet.Swaps), Washes: behind(p.Fleet.Washes)},
			Readers:  behind(p.Readers),
			Shippers: behind(p.Shippers),
			Railways: behind(p.Railways),
		}
		for range 10 {
			result := call(argument, r.Intn(4), r.Intn(4), r.Intn(100))
			clear(result.given[:cap(result.given)])
		}
		checkBehind(t, argument.Network.Places, want.Network.Places)
		checkBehind(t, argument.Network.Edges, want.Network.Edges)
		checkBehind(t, argument.Fleet.Types, want.Fleet.Types)
		checkBehind(t, argument.Fleet.Wagons, want.Fleet.Wagons)
		checkBehind(t, argument.Fleet.Swaps, want.Fleet.Swaps)
		checkBehind(t, argument.Fleet.Washes, want.Fleet.Washes)
		checkBehind(t, argument.Readers, want.Readers)
		checkBehind(t, argument.Shippers, want.Shippers)
		checkBehind(t, argument.Railways, want.Railways)
	}
}

// checkBehind checks that a list is equal to another one, and that nothing but zero values follows it.
func checkBehind[T any](t *testing.T, l, want []T) {
	t.Helper()
	if long := l[:len(l)+3]; !reflect.DeepEqual(long, behind(want)[:len(want)+3]) {
		t.Fatalf("the memory of %v is now %v", begin(want), begin(long))
	}
}

// R2: results stay as they are when the arguments or the results of other calls change.
func TestResultsUnchanged(t *testing.T) {
	for _, p := range manyPools() {
		for i := range 4 {
			argument := copied(p)
			first, want := call(argument, i, 1, 50), call(p, i, 1, 50)
			clear(argument.Fleet.Types)
			clear(argument.Fleet.Wagons)
			clear(argument.Fleet.Swaps)
			clear(argument.Fleet.Washes)
			other := call(p, i, 1, 50)
			clear(other.given[:cap(other.given)])
			if !same(first, want) {
				t.Fatalf("%s: %v, but then %v", shown(p.Fleet), want, first)
			}
		}
	}
}

// R3: nil is an empty list.
func TestNil(t *testing.T) {
	for _, f := range []api.Fleet{{}, {Types: []api.WagonType{}, Wagons: []api.Wagon{}, Swaps: []api.Swap{}, Washes: []api.Wash{}}, {Swaps: make([]api.Swap, 0, 5)}, {Types: []api.WagonType{}}} {
		checkErrno(t, f, api.OK)
		checkFits(t, f, 0, 0, 0, api.ErrWagon)
		checkGiven(t, f, 0, nil, api.ErrWagon)
		checkClean(t, f, 0, 0, 0, api.OK)
		checkWorth(t, f, 0, 0, 0, api.ErrWagon)
		p := api.Pool{Fleet: f}
		checkPool(t, p, api.ErrArg)
		p.Network = api.Network{Places: []api.Place{}, Edges: []api.Edge{}}
		p.Readers, p.Shippers, p.Railways = []api.Reader{}, []api.Shipper{}, []api.RailwayInfo{}
		checkPool(t, p, api.ErrArg)
		p.Railways = []api.RailwayInfo{{Key: key(1), Calendar: api.Calendar{Holidays: []int{}}}}
		checkPool(t, p, api.OK)
	}
}

// R6: equal calls return equal results, whatever was called in between.
func TestEqualCalls(t *testing.T) {
	for _, p := range manyPools() {
		for i := -1; i <= 4; i++ {
			for _, j := range []int{-1, 0, 1, 2, 64, maxTime + 1} {
				first := call(p, i, j, j)
				call(examplePool(), 1, 2, 3)
				call(p, j, i, i)
				for range 2 {
					if again := call(copied(p), i, j, j); !same(again, first) {
						t.Fatalf("%d and %d in %s: %v, and before %v", i, j, shown(p.Fleet), again, first)
					}
				}
			}
		}
	}
}

// R1: no argument of any size makes a call panic, and together with an error every other result is zero.
func TestZeroWithErrors(t *testing.T) {
	for _, p := range manyPools() {
		for _, i := range samples {
			for _, j := range []int{least, -1, 0, 1, 64, maxTime + 1, greatest} {
				r := call(p, i, j, i)
				if r.errnos[3] != api.OK && len(r.given) > 0 || r.errnos[4] != api.OK && r.clean != 0 || r.errnos[5] != api.OK && r.worth != 0 {
					t.Fatalf("%d and %d in %s: %v", i, j, shown(p.Fleet), r)
				}
			}
		}
	}
}
