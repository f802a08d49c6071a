package fleet_test

import (
	"math/rand"
	"slices"
	"testing"

	"wagonpool/api"
	"wagonpool/fleet"
)

// lists returns a fleet with some types, wagons, swaps and washes, all of them valid.
func lists(numbers [4]int) (f api.Fleet) {
	f = types(numbers[0])
	f.Wagons = make([]api.Wagon, numbers[1])
	f.Swaps = slices.Repeat([]api.Swap{{Wanted: 1, Given: 0, Cost: 3}}, numbers[2])
	f.Washes = manyWashes(numbers[3])
	return f
}

// manyWashes returns some different washes; after the first 4032, there are no more, and the first ones follow once more.
func manyWashes(n int) (l []api.Wash) {
	for len(l) < n {
		for from := range 64 {
			for to := range 64 {
				if from != to {
					l = append(l, api.Wash{From: from, To: to, Minutes: 100*from + to})
				}
			}
		}
	}
	return l[:n]
}

// P9.1: fleets that lack some kinds of elements.
func TestCheckEmpty(t *testing.T) {
	checkErrno(t, api.Fleet{}, api.OK)
	checkErrno(t, example(), api.OK)
	for _, n := range [][4]int{{1, 0, 0, 0}, {0, 0, 0, 1}, {1, 1, 0, 0}, {2, 0, 1, 0}, {2, 3, 4, 5}, {2, 0, 4, 5}, {2, 3, 0, 5}, {2, 3, 4, 0}} {
		checkErrno(t, lists(n), api.OK)
	}
	for _, n := range [][4]int{{0, 1, 0, 0}, {0, 0, 1, 0}, {1, 0, 1, 0}, {0, 5, 5, 5}} {
		checkErrno(t, lists(n), api.ErrArg)
	}
}

// P9.1: the numbers of elements; no more than 4032 washes are different, so 4096 are too few for ErrLimit, but never valid.
func TestCheckLimits(t *testing.T) {
	for _, c := range []struct {
		numbers [4]int
		want    api.Errno
	}{
		{[4]int{31, 4095, 1023, 4031}, api.OK}, {[4]int{32, 4096, 1024, 4032}, api.OK},
		{[4]int{32, 0, 0, 0}, api.OK}, {[4]int{1, 4096, 0, 0}, api.OK}, {[4]int{2, 0, 1024, 0}, api.OK}, {[4]int{0, 0, 0, 4032}, api.OK},
		{[4]int{33, 0, 0, 0}, api.ErrLimit}, {[4]int{1, 4097, 0, 0}, api.ErrLimit}, {[4]int{2, 0, 1025, 0}, api.ErrLimit}, {[4]int{0, 0, 0, 4097}, api.ErrLimit},
		{[4]int{33, 4096, 1024, 4032}, api.ErrLimit}, {[4]int{32, 4097, 1024, 4032}, api.ErrLimit}, {[4]int{32, 4096, 1025, 4032}, api.ErrLimit}, {[4]int{32, 4096, 1024, 4097}, api.ErrLimit},
		{[4]int{0, 0, 0, 4033}, api.ErrArg}, {[4]int{0, 0, 0, 4095}, api.ErrArg}, {[4]int{0, 0, 0, 4096}, api.ErrArg}, {[4]int{32, 4096, 1024, 4096}, api.ErrArg},
		{[4]int{100, 10000, 10000, 10000}, api.ErrLimit}, {[4]int{0, 0, 0, 100000}, api.ErrLimit}, {[4]int{0, 4096, 1024, 0}, api.ErrArg}, {[4]int{0, 4097, 0, 0}, api.ErrLimit}, {[4]int{0, 0, 1025, 0}, api.ErrLimit},
	} {
		checkErrno(t, lists(c.numbers), c.want)
	}
}

// P9.1: ErrLimit comes before ErrArg, whatever is too much and whatever is not valid.
func TestCheckLimitFirst(t *testing.T) {
	for i, spoil := range []func(f *api.Fleet){
		func(f *api.Fleet) { f.Types[2].Life = 0 },
		func(f *api.Fleet) { f.Wagons[2].Owner = 64 },
		func(f *api.Fleet) { f.Swaps[2].Given = 1 },
		func(f *api.Fleet) { f.Washes[2] = api.Wash{} },
	} {
		for _, numbers := range [][4]int{{33, 3, 3, 3}, {3, 4097, 3, 3}, {3, 3, 1025, 3}, {3, 3, 3, 4097}} {
			f := lists(numbers)
			spoil(&f)
			checkErrno(t, f, api.ErrLimit)
		}
		f := lists([4]int{3, 3, 3, 3})
		spoil(&f)
		if e := fleet.Check(f); e != api.ErrArg {
			t.Fatalf("case %d: %v", i, e)
		}
	}
}

// bounds are the least and the greatest valid value of a field.
type bounds struct {
	name            string
	field           func(f *api.Fleet) *int
	least, greatest int
}

// fieldBounds lists the bounds of all fields of the middle ones of three types, wagons, swaps and washes.
func fieldBounds() []bounds {
	return []bounds{
		{"Load", func(f *api.Fleet) *int { return &f.Types[1].Load }, 0, 1000000},
		{"Tare", func(f *api.Fleet) *int { return &f.Types[1].Tare }, 0, 1000000},
		{"Length", func(f *api.Fleet) *int { return &f.Types[1].Length }, 0, 1000000},
		{"Brake", func(f *api.Fleet) *int { return &f.Types[1].Brake }, 0, 1000000},
		{"Gauge", func(f *api.Fleet) *int { return &f.Types[1].Gauge }, 0, 7},
		{"Life", func(f *api.Fleet) *int { return &f.Types[1].Life }, 1, 1073741824},
		{"Floor", func(f *api.Fleet) *int { return &f.Types[1].Floor }, 0, 100},
		{"Type", func(f *api.Fleet) *int { return &f.Wagons[1].Type }, 0, 2},
		{"Owner", func(f *api.Fleet) *int { return &f.Wagons[1].Owner }, 0, 63},
		{"Home", func(f *api.Fleet) *int { return &f.Wagons[1].Home }, 0, 511},
		{"Built", func(f *api.Fleet) *int { return &f.Wagons[1].Built }, 0, 1073741824},
		{"Worth", func(f *api.Fleet) *int { return &f.Wagons[1].Worth }, 0, 1099511627776},
		{"Wanted", func(f *api.Fleet) *int { return &f.Swaps[1].Wanted }, 1, 2}, // because Given is 0
		{"Given", func(f *api.Fleet) *int { return &f.Swaps[2].Given }, 0, 1},   // because Wanted is 2
		{"Cost", func(f *api.Fleet) *int { return &f.Swaps[1].Cost }, 0, 1000000000},
		{"From", func(f *api.Fleet) *int { return &f.Washes[1].From }, 0, 62}, // because To is 63
		{"To", func(f *api.Fleet) *int { return &f.Washes[2].To }, 1, 63},     // because From is 0
		{"Minutes", func(f *api.Fleet) *int { return &f.Washes[1].Minutes }, 0, 100000},
	}
}

// threes returns a fleet of three types, wagons, swaps and washes whose fields can have all values between the bounds of fieldBounds.
func threes() api.Fleet {
	f := types(3, api.Swap{Wanted: 1, Given: 2}, api.Swap{Wanted: 1, Given: 0}, api.Swap{Wanted: 2, Given: 0})
	f.Wagons = make([]api.Wagon, 3)
	f.Washes = []api.Wash{{From: 63, To: 0}, {From: 5, To: 63}, {From: 0, To: 7}}
	return f
}

// P9.1: each field at its bounds and beyond them.
func TestCheckBounds(t *testing.T) {
	for _, b := range fieldBounds() {
		t.Run(b.name, func(t *testing.T) {
			for _, value := range append(slices.Clone(samples), b.least, b.greatest, b.least-1, b.greatest+1) {
				if b.name == "From" && value == 0 || b.name == "To" && value == 63 { // as in the other wash
					continue
				}
				f := threes()
				*b.field(&f) = value
				checkErrno(t, f, errno(b.least <= value && value <= b.greatest))
			}
		})
	}
}

// P9.1: the fields have their bounds in each element, whatever the others are: each sample in each field.
func TestCheckSamples(t *testing.T) {
	for _, f := range append(someFleets(31, 8), example(), threes(), lists([4]int{4, 4, 4, 4})) {
		for i := range integers(&f) {
			for _, value := range samples {
				g := copied(f)
				*integers(&g)[i] = value
				checkErrno(t, g, checkOf(g))
			}
		}
	}
}

// P9.1: each set of classes is valid.
func TestCheckClasses(t *testing.T) {
	for class := range 64 {
		for _, classes := range []uint64{0, 1 << class, ^uint64(1 << class), 1<<class - 1, ^uint64(0)} {
			f := example()
			f.Types[1].Classes = classes
			checkErrno(t, f, api.OK)
		}
	}
}

// P9.1: the number of types bounds those of wagons and swaps.
func TestCheckIndices(t *testing.T) {
	for n := range maxTypes + 1 {
		for i := -2; i < maxTypes+2; i++ {
			f := types(n)
			f.Wagons = []api.Wagon{{Type: i}}
			checkErrno(t, f, errno(i >= 0 && i < n))
			for j := -2; j < maxTypes+2; j++ {
				checkErrno(t, types(n, api.Swap{Wanted: i, Given: j}), errno(i >= 0 && i < n && j >= 0 && j < n && i != j))
			}
		}
	}
}

// P9.1: all pairs of samples in a swap and in a wash; a type is not supplied for itself, and a class needs no wash before itself.
func TestCheckPairs(t *testing.T) {
	for _, a := range samples {
		for _, b := range samples {
			swap := api.Swap{Wanted: a, Given: b, Cost: 1}
			checkErrno(t, types(2, swap), errno(isSwap(swap, 2)))
			checkErrno(t, types(17, api.Swap{Wanted: 0, Given: 1}, swap), errno(isSwap(swap, 17)))
			wash := api.Wash{From: a, To: b, Minutes: 1}
			checkErrno(t, api.Fleet{Washes: []api.Wash{wash}}, errno(isWash(wash, nil)))
			checkErrno(t, api.Fleet{Washes: []api.Wash{{From: 1, To: 2}, wash}}, errno(isWash(wash, []api.Wash{{From: 1, To: 2}})))
		}
	}
	for i := range 64 {
		checkErrno(t, types(maxTypes, api.Swap{Wanted: i, Given: i}), api.ErrArg)
		checkErrno(t, api.Fleet{Washes: []api.Wash{{From: i, To: i}}}, api.ErrArg)
	}
}

// P9.1: no two washes have the same From and To, next to each other or far apart, with equal or different minutes; the reverse direction is not the same wash.
func TestCheckRepeatedWashes(t *testing.T) {
	many := manyWashes(4032)
	for _, i := range []int{0, 1, 62, 63, 64, 2000, 4030, 4031} {
		for _, minutes := range []int{0, many[i].Minutes, 100000} {
			again := api.Wash{From: many[i].From, To: many[i].To, Minutes: minutes}
			for _, at := range []int{0, 1, i, i + 1, 2001, 4031, 4032} {
				checkErrno(t, api.Fleet{Washes: slices.Insert(slices.Clone(many), at, again)}, api.ErrArg)
			}
			reverse := api.Wash{From: again.To, To: again.From, Minutes: minutes}
			checkErrno(t, api.Fleet{Washes: []api.Wash{again, reverse}}, api.OK)
			checkErrno(t, api.Fleet{Washes: []api.Wash{reverse, again}}, api.OK)
			checkErrno(t, api.Fleet{Washes: []api.Wash{again, reverse, again}}, api.ErrArg)
			checkErrno(t, api.Fleet{Washes: []api.Wash{reverse, again, again}}, api.ErrArg)
		}
	}
	checkErrno(t, api.Fleet{Washes: []api.Wash{{From: 1, To: 2}, {From: 1, To: 3}, {From: 2, To: 3}, {From: 12, To: 3}, {From: 1, To: 23}}}, api.OK)
}

// P9.1: the washes of one call do not matter for another one.
func TestCheckForgets(t *testing.T) {
	for range 3 {
		checkErrno(t, example(), api.OK)
		checkErrno(t, lists([4]int{0, 0, 0, 4032}), api.OK)
	}
}

// P9.1: the same swap may occur several times; so may the same type and the same wagon.
func TestCheckRepeated(t *testing.T) {
	f := example()
	f.Types = append(f.Types, f.Types...)
	f.Wagons = append(f.Wagons, f.Wagons...)
	f.Swaps = append(f.Swaps, f.Swaps...)
	checkErrno(t, f, api.OK)
}

// badFleets returns fleets for each error of Check, and some with several errors.
func badFleets() map[api.Errno][]api.Fleet {
	limit := []api.Fleet{lists([4]int{33, 2, 2, 2}), lists([4]int{2, 4097, 2, 2}), lists([4]int{2, 2, 1025, 2}), lists([4]int{2, 2, 2, 4097}), lists([4]int{0, 4097, 1025, 0}), {Types: make([]api.WagonType, 33)}}
	arg := []api.Fleet{{Types: make([]api.WagonType, 1)}, {Wagons: make([]api.Wagon, 2)}, {Washes: make([]api.Wash, 1)}, {Swaps: make([]api.Swap, 1)}}
	r := rand.New(rand.NewSource(32))
	for range 40 {
		f := threes()
		for range 1 + r.Intn(3) {
			b := fieldBounds()[r.Intn(18)]
			*b.field(&f) = []int{least, b.least - 1, b.greatest + 1, greatest}[r.Intn(4)]
		}
		arg = append(arg, f)
	}
	return map[api.Errno][]api.Fleet{api.ErrLimit: limit, api.ErrArg: arg}
}

// checkAllErrnos checks that all functions of a fleet but Check return an error.
func checkAllErrnos(t *testing.T, f api.Fleet, i, j int, want api.Errno) {
	t.Helper()
	checkFits(t, f, i, j, 0, want)
	checkGiven(t, f, i, nil, want)
	checkClean(t, f, i, j, 0, want)
	checkWorth(t, f, i, j, 0, want)
}

// P9.3: the error of Check comes before all others.
func TestCheckComesFirst(t *testing.T) {
	for want, fleets := range badFleets() {
		for _, f := range fleets {
			checkErrno(t, f, want)
			for _, i := range []int{0, 1, 2, -1, 64, 4096, least, greatest} {
				for _, j := range []int{0, 1, -1, 64, maxTime + 1, least, greatest} {
					checkAllErrnos(t, f, i, j, want)
				}
			}
			if e := fleet.CheckPool(api.Pool{Fleet: f}); e != want {
				t.Fatalf("CheckPool of %s: %v, want %v", shown(f), e, want)
			}
		}
	}
}
