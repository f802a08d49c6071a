package fleet_test

import (
	"fmt"
	"math"
	"math/big"
	"math/rand"
	"reflect"
	"slices"
	"testing"

	"wagonpool/api"
	"wagonpool/fleet"
	"wagonpool/network"
	"wagonpool/sign"
)

// This file spells the chapter out a second time, without haste, and contains the samples of the tests.

const (
	maxTypes  = 32
	maxWagons = 4096
	maxSwaps  = 1024
	maxWashes = 4096
	maxTime   = 1 << 30
	maxWorth  = 1 << 40
	maxCost   = 1000000000
	lastDay   = 745654 // the day of the minute maxTime
	least     = math.MinInt
	greatest  = math.MaxInt
)

// samples are around the bounds of all fields, and the least and the greatest integers.
var samples = []int{least, least + 1, -maxWorth, -maxTime, -1001, -1000, -999, -2, -1, 0, 1, 2, 3, 4, 5, 6, 7, 8, 15, 16, 31, 32, 63, 64, 99, 100, 101, 255, 256, 511, 512, 999, 1000, 1001, 1439, 1440, 1441, 10000, 10001, 99999, 100000, 100001, lastDay, lastDay + 1, 999999, 1000000, 1000001, maxCost - 1, maxCost, maxCost + 1, maxTime - 1, maxTime, maxTime + 1, 1 << 32, 1<<32 + 1, maxWorth - 1, maxWorth, maxWorth + 1, greatest - 1, greatest}

// example returns the fleet of the chapter's examples.
func example() api.Fleet {
	const classes = 1<<1 | 1<<2
	return api.Fleet{
		Types:  []api.WagonType{{Load: 60000, Classes: classes, Life: 100, Floor: 20}, {Load: 50000, Life: 1}, {Load: 40000, Life: 1}},
		Wagons: []api.Wagon{{Type: 0, Built: 0, Worth: 1000000}},
		Swaps:  []api.Swap{{Wanted: 0, Given: 1, Cost: 5}, {Wanted: 1, Given: 2, Cost: 7}, {Wanted: 0, Given: 2, Cost: 20}},
		Washes: []api.Wash{{From: 1, To: 2, Minutes: 90}},
	}
}

// types returns a fleet of some types with swaps between them.
func types(n int, swaps ...api.Swap) (f api.Fleet) {
	for i := range n {
		f.Types = append(f.Types, api.WagonType{Load: 1000 * i, Life: 1 + i})
	}
	f.Swaps = swaps
	return f
}

// key returns the public key of a railway.
func key(railway byte) uint64 {
	secret, _ := sign.Secret([]byte{railway})
	public, _ := sign.Public(secret)
	return public
}

// examplePool returns a valid pool of three railways that has everything.
func examplePool() api.Pool {
	week := api.Calendar{Open: [7]api.Span{{From: 480, To: 960}, {From: 0, To: 1440}, {From: 700, To: 700}}, Holidays: []int{0, 3, 99}}
	return api.Pool{
		Network: api.Network{
			Places: []api.Place{{Kind: api.Station, Railway: 0, Other: -1}, {Kind: api.Interchange, Railway: 0, Other: 1}, {Kind: api.Siding, Railway: 1, Other: -1}, {Kind: api.Yard, Railway: 2, Other: -1}, {Kind: api.Shop, Railway: 1, Other: -1}, {Kind: api.Siding, Railway: 0, Other: -1}, {Kind: api.Interchange, Railway: 2, Other: 0}},
			Edges:  []api.Edge{{A: 0, B: 1, Railway: 0, Minutes: 10, Km: 5}, {A: 1, B: 2, Railway: 1, Minutes: 20, Km: 9}, {A: 2, B: 3, Railway: 2, Minutes: 30, Km: 0}},
		},
		Fleet: api.Fleet{
			Types:  example().Types,
			Wagons: []api.Wagon{{Type: 0, Owner: 0, Home: 0, Built: 0, Worth: 1000000}, {Type: 2, Owner: 63, Home: 6, Built: 500, Worth: 77}, {Type: 1, Owner: 5, Home: 3, Built: maxTime, Worth: 0}},
			Swaps:  example().Swaps,
			Washes: []api.Wash{{From: 1, To: 2, Minutes: 90}, {From: 2, To: 1, Minutes: 10}},
		},
		Readers:  []api.Reader{{Place: 0, Low: -5, High: 5}, {Place: 6, Low: 0, High: 0}},
		Shippers: []api.Shipper{{Place: 2}, {Place: 5}, {Place: 2}},
		Railways: []api.RailwayInfo{{Key: key(0), Calendar: week}, {Key: key(1)}, {Key: key(2), Calendar: api.Calendar{Holidays: []int{lastDay}}}},
	}
}

// copied returns what is equal to x, but shares no memory with it.
func copied[T any](x T) T {
	v := reflect.New(reflect.TypeFor[T]()).Elem()
	v.Set(reflect.ValueOf(x))
	separate(v)
	return v.Interface().(T)
}

// separate gives all slices within v memory of their own.
func separate(v reflect.Value) {
	switch v.Kind() {
	case reflect.Struct:
		for i := range v.NumField() {
			separate(v.Field(i))
		}
	case reflect.Slice:
		if !v.IsNil() {
			l := reflect.MakeSlice(v.Type(), v.Len(), v.Len())
			reflect.Copy(l, v)
			v.Set(l)
		}
		for i := range v.Len() {
			separate(v.Index(i))
		}
	}
}

// integers returns pointers to all ints within x, a pointer to a structure.
func integers(x any) (l []*int) {
	var visit func(v reflect.Value)
	visit = func(v reflect.Value) {
		switch v.Kind() {
		case reflect.Int:
			l = append(l, v.Addr().Interface().(*int))
		case reflect.Struct:
			for i := range v.NumField() {
				visit(v.Field(i))
			}
		case reflect.Slice, reflect.Array:
			for i := range v.Len() {
				visit(v.Index(i))
			}
		}
	}
	visit(reflect.ValueOf(x).Elem())
	return l
}

// within tells whether the middle one of each three numbers is between the others.
func within(l ...[3]int) bool {
	return !slices.ContainsFunc(l, func(x [3]int) bool { return x[1] < x[0] || x[1] > x[2] })
}

// errno returns OK or ErrArg.
func errno(valid bool) api.Errno {
	if valid {
		return api.OK
	}
	return api.ErrArg
}

// isType spells out which types are valid.
func isType(t api.WagonType) bool {
	const million = 1000 * 1000
	return within([3]int{0, t.Load, million}, [3]int{0, t.Tare, million}, [3]int{0, t.Length, million}, [3]int{0, t.Brake, million}, [3]int{0, t.Gauge, 7}, [3]int{1, t.Life, maxTime}, [3]int{0, t.Floor, 100})
}

// isWagon spells out which wagons are valid if there are some types.
func isWagon(w api.Wagon, types int) bool {
	return within([3]int{0, w.Type, types - 1}, [3]int{0, w.Owner, 63}, [3]int{0, w.Home, 511}, [3]int{0, w.Built, maxTime}, [3]int{0, w.Worth, maxWorth})
}

// isSwap spells out which swaps are valid if there are some types.
func isSwap(s api.Swap, types int) bool {
	return within([3]int{0, s.Wanted, types - 1}, [3]int{0, s.Given, types - 1}, [3]int{0, s.Cost, maxCost}) && s.Wanted != s.Given
}

// isWash spells out which washes are valid after others.
func isWash(w api.Wash, before []api.Wash) bool {
	for _, b := range before {
		if b.From == w.From && b.To == w.To {
			return false
		}
	}
	return within([3]int{0, w.From, 63}, [3]int{0, w.To, 63}, [3]int{0, w.Minutes, 100000}) && w.From != w.To
}

// checkOf spells Check out.
func checkOf(f api.Fleet) api.Errno {
	if len(f.Types) > maxTypes || len(f.Wagons) > maxWagons || len(f.Swaps) > maxSwaps || len(f.Washes) > maxWashes {
		return api.ErrLimit
	}
	valid := true
	for _, t := range f.Types {
		valid = valid && isType(t)
	}
	for _, w := range f.Wagons {
		valid = valid && isWagon(w, len(f.Types))
	}
	for _, s := range f.Swaps {
		valid = valid && isSwap(s, len(f.Types))
	}
	for i, w := range f.Washes {
		valid = valid && isWash(w, f.Washes[:i])
	}
	return errno(valid)
}

// isKey tells whether a number is a valid key: the elements of order Q are the squares but 1.
func isKey(x uint64) bool {
	number, prime := new(big.Int).SetUint64(x), new(big.Int).SetUint64(api.P)
	return x >= 2 && x < api.P && big.Jacobi(number, prime) == 1
}

// isCalendar spells out which calendars are valid.
func isCalendar(c api.Calendar) bool {
	for _, s := range c.Open {
		if s.From < 0 || s.To > 1440 || s.From > s.To {
			return false
		}
	}
	for i, day := range c.Holidays {
		if day < 0 || day > lastDay || i > 0 && c.Holidays[i-1] >= day {
			return false
		}
	}
	return true
}

// isPool spells out the conditions that CheckPool states itself.
func isPool(p api.Pool) (valid bool) {
	places, railways := len(p.Network.Places)-1, len(p.Railways)-1
	valid = railways >= 0
	for _, r := range p.Railways {
		valid = valid && isKey(r.Key) && isCalendar(r.Calendar)
	}
	for _, r := range p.Readers {
		valid = valid && within([3]int{0, r.Place, places}, [3]int{-1000, r.Low, r.High}, [3]int{r.Low, r.High, 1000})
	}
	for _, s := range p.Shippers {
		valid = valid && within([3]int{0, s.Place, places}) && p.Network.Places[s.Place].Kind == 4
	}
	for _, w := range p.Fleet.Wagons {
		valid = valid && within([3]int{0, w.Home, places})
	}
	for _, l := range p.Network.Places {
		valid = valid && within([3]int{0, l.Railway, railways})
		if l.Kind == 3 {
			valid = valid && within([3]int{0, l.Other, railways})
		}
	}
	for _, l := range p.Network.Edges {
		valid = valid && within([3]int{0, l.Railway, railways})
	}
	return valid
}

// checkPoolOf spells CheckPool out.
func checkPoolOf(p api.Pool) api.Errno {
	if e := network.Check(p.Network); e != api.OK {
		return e
	}
	if e := checkOf(p.Fleet); e != api.OK {
		return e
	}
	if len(p.Readers) > 256 || len(p.Shippers) > 256 || len(p.Railways) > 16 {
		return api.ErrLimit
	}
	return errno(isPool(p))
}

// fitsOf spells Fits out for a valid fleet.
func fitsOf(f api.Fleet, wagon, class, weight int) api.Errno {
	if wagon < 0 || wagon >= len(f.Wagons) {
		return api.ErrWagon
	}
	t := f.Types[f.Wagons[wagon].Type]
	for c := range 64 {
		if c == class && t.Classes&(1<<c) != 0 && within([3]int{0, weight, t.Load}) {
			return api.OK
		}
	}
	return api.ErrFit
}

// givenOf spells Given out for a type of a valid fleet: the least costs between all types, over more and more of them.
func givenOf(f api.Fleet, wanted int) (l []api.Swap) {
	cost := make([][]int, len(f.Types))
	for w := range cost {
		cost[w] = slices.Repeat([]int{-1}, len(f.Types))
		cost[w][w] = 0
	}
	improve := func(w, g, c int) {
		if cost[w][g] < 0 || c < cost[w][g] {
			cost[w][g] = c
		}
	}
	for _, s := range f.Swaps {
		improve(s.Wanted, s.Given, s.Cost)
	}
	for over := range cost {
		for w := range cost {
			for g := range cost {
				if cost[w][over] >= 0 && cost[over][g] >= 0 {
					improve(w, g, cost[w][over]+cost[over][g])
				}
			}
		}
	}
	for g, c := range cost[wanted] {
		if c >= 0 {
			l = append(l, api.Swap{Wanted: wanted, Given: g, Cost: c})
		}
	}
	return l
}

// cleanOf spells Clean out for a valid fleet: it walks through all washes from the last one on.
func cleanOf(f api.Fleet, from, to int) (n int, e api.Errno) {
	if !within([3]int{0, from, 63}, [3]int{0, to, 63}) {
		return 0, api.ErrArg
	}
	for _, w := range slices.Backward(f.Washes) {
		if [2]int{w.From, w.To} == [2]int{from, to} {
			n = w.Minutes
		}
	}
	return n, api.OK
}

// worthOf spells Worth out for a wagon of a valid fleet and a minute: the loss, rounded down, but at least the floor, rounded up.
func worthOf(f api.Fleet, wagon, at int) int {
	w := f.Wagons[wagon]
	t := f.Types[w.Type]
	age := big.NewInt(int64(min(max(at-w.Built, 0), t.Life)))
	worth := big.NewInt(int64(w.Worth))
	loss := new(big.Int).Mul(worth, age)
	loss.Div(loss, big.NewInt(int64(t.Life)))
	floor := int64(w.Worth) * int64(t.Floor)
	lowest := floor / 100
	if floor%100 > 0 {
		lowest++
	}
	return int(max(lowest, worth.Sub(worth, loss).Int64()))
}

// randomFleet returns a valid fleet with up to some types, wagons, swaps and washes. If most is small, many chains have equal costs.
func randomFleet(r *rand.Rand, count, most int) (f api.Fleet) {
	for range 1 + r.Intn(min(count, maxTypes)) {
		f.Types = append(f.Types, api.WagonType{Load: r.Intn(1000001), Gauge: r.Intn(8), Classes: r.Uint64() & r.Uint64(), Life: 1 + r.Intn(maxTime)>>r.Intn(30), Floor: r.Intn(101)})
	}
	for range r.Intn(count) {
		f.Wagons = append(f.Wagons, api.Wagon{Type: r.Intn(len(f.Types)), Owner: r.Intn(64), Home: r.Intn(512), Built: r.Intn(maxTime+1) >> r.Intn(30), Worth: r.Intn(maxWorth + 1)})
	}
	for range r.Intn(2 * count) {
		if w, g := r.Intn(len(f.Types)), r.Intn(len(f.Types)); w != g {
			f.Swaps = append(f.Swaps, api.Swap{Wanted: w, Given: g, Cost: r.Intn(most + 1)})
		}
	}
	for range r.Intn(2 * count) {
		w := api.Wash{From: r.Intn(64) >> r.Intn(5), To: r.Intn(64) >> r.Intn(5), Minutes: r.Intn(100001)}
		if isWash(w, f.Washes) {
			f.Washes = append(f.Washes, w)
		}
	}
	return f
}

// someFleets returns valid fleets of all sizes.
func someFleets(seed int64, count int) (l []api.Fleet) {
	r := rand.New(rand.NewSource(seed))
	for range count {
		l = append(l, randomFleet(r, 2+r.Intn(60)>>r.Intn(5), []int{0, 1, 3, 10, 1000, maxCost}[r.Intn(6)]))
	}
	return l
}

// shown returns the numbers of a fleet's elements, and the beginning of each list.
func shown(f api.Fleet) string {
	return fmt.Sprintf("%d types %v, %d wagons %v, %d swaps %v, %d washes %v", len(f.Types), begin(f.Types), len(f.Wagons), begin(f.Wagons), len(f.Swaps), begin(f.Swaps), len(f.Washes), begin(f.Washes))
}

func begin[T any](l []T) []T {
	return l[:min(8, len(l))]
}

func checkErrno(t *testing.T, f api.Fleet, want api.Errno) {
	t.Helper()
	if e := fleet.Check(f); e != want {
		t.Fatalf("Check of %s: %v, want %v", shown(f), e, want)
	}
}

func checkPool(t *testing.T, p api.Pool, want api.Errno) {
	t.Helper()
	if e := fleet.CheckPool(p); e != want {
		t.Fatalf("CheckPool of %d readers, %d shippers, %d railways, %s: %v, want %v", len(p.Readers), len(p.Shippers), len(p.Railways), shown(p.Fleet), e, want)
	}
}

func checkFits(t *testing.T, f api.Fleet, wagon, class, weight int, want api.Errno) {
	t.Helper()
	if e := fleet.Fits(f, wagon, class, weight); e != want {
		t.Fatalf("Fits of wagon %d, class %d, weight %d in %s: %v, want %v", wagon, class, weight, shown(f), e, want)
	}
}

func checkGiven(t *testing.T, f api.Fleet, wanted int, want []api.Swap, errno api.Errno) {
	t.Helper()
	if l, e := fleet.Given(f, wanted); e != errno || !slices.Equal(l, want) {
		t.Fatalf("Given(%d) in %s: %v, %v, want %v, %v", wanted, shown(f), l, e, want, errno)
	}
}

func checkClean(t *testing.T, f api.Fleet, from, to, want int, errno api.Errno) {
	t.Helper()
	if n, e := fleet.Clean(f, from, to); e != errno || n != want {
		t.Fatalf("Clean(%d, %d) in %s: %v, %v, want %v, %v", from, to, shown(f), n, e, want, errno)
	}
}

func checkWorth(t *testing.T, f api.Fleet, wagon, at, want int, errno api.Errno) {
	t.Helper()
	if a, e := fleet.Worth(f, wagon, at); e != errno || a != want {
		t.Fatalf("Worth of wagon %d at %d in %s: %v, %v, want %v, %v", wagon, at, shown(f), a, e, want, errno)
	}
}
