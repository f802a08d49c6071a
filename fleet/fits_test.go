package fleet_test

import (
	"math/rand"
	"testing"

	"wagonpool/api"
)

// P9.4: the examples of the chapter.
func TestFitsExamples(t *testing.T) {
	f := example()
	checkFits(t, f, 0, 1, 60000, api.OK)
	checkFits(t, f, 0, 1, 60001, api.ErrFit)
	checkFits(t, f, 0, 3, 1, api.ErrFit)
	checkFits(t, f, 1, 1, 60000, api.ErrWagon)
}

// loading returns a fleet with one wagon that carries a set of classes up to a load.
func loading(classes uint64, load int) api.Fleet {
	return api.Fleet{
		Types:  []api.WagonType{{Load: 7, Classes: ^classes, Life: 1}, {Load: load, Classes: classes, Life: 1}},
		Wagons: []api.Wagon{{Type: 1}},
	}
}

// P9.4: each class of a type, and those that it does not have; classes outside of 0 to 63 have no bit, even if all bits are set.
func TestFitsClasses(t *testing.T) {
	all := ^uint64(0)
	for class := -130; class <= 200; class++ {
		isClass := class >= 0 && class < 64
		checkFits(t, loading(0, 1000), 0, class, 1, api.ErrFit)
		if isClass {
			checkFits(t, loading(all, 1000), 0, class, 1, api.OK)
			checkFits(t, loading(1<<class, 1000), 0, class, 1, api.OK)
			checkFits(t, loading(all^1<<class, 1000), 0, class, 1, api.ErrFit)
			continue
		}
		for _, classes := range []uint64{1, 2, 1 << 63, all} {
			checkFits(t, loading(classes, 1000), 0, class, 1, api.ErrFit)
		}
	}
	for _, class := range samples {
		checkFits(t, loading(all, 1000), 0, class, 1, fitsOf(loading(all, 1000), 0, class, 1))
	}
	for _, class := range []int{least, least + 1, -64, -1, 64, 65, 128, 1 << 32, greatest - 1, greatest} {
		checkFits(t, loading(all, 1000), 0, class, 0, api.ErrFit)
	}
}

// P9.4: weights around 0 and around the load.
func TestFitsWeights(t *testing.T) {
	for _, load := range []int{0, 1, 2, 60000, 999999, 1000000} {
		f := loading(1<<5, load)
		checkFits(t, f, 0, 5, -1, api.ErrFit)
		checkFits(t, f, 0, 5, 0, api.OK)
		checkFits(t, f, 0, 5, load/2, api.OK)
		checkFits(t, f, 0, 5, load, api.OK)
		checkFits(t, f, 0, 5, load+1, api.ErrFit)
		for _, weight := range []int{least, least + 1, -1 << 32, 1 << 32, greatest - 1, greatest} {
			checkFits(t, f, 0, 5, weight, api.ErrFit)
		}
		for _, weight := range samples {
			checkFits(t, f, 0, 5, weight, fitsOf(f, 0, 5, weight))
		}
	}
}

// P9.4: ErrWagon comes before ErrFit, for all numbers that name no wagon.
func TestFitsWagons(t *testing.T) {
	full := lists([4]int{2, maxWagons, 0, 0})
	for _, f := range []api.Fleet{{}, types(3), example(), threes(), full} {
		n := len(f.Wagons)
		for _, wagon := range append(samples, n, n+1, -n, 4095, 4096) {
			if wagon >= 0 && wagon < n {
				checkFits(t, f, wagon, -1, -1, api.ErrFit)
				continue
			}
			for _, class := range []int{least, -1, 0, 1, 63, 64, greatest} {
				for _, weight := range []int{least, -1, 0, 1, greatest} {
					checkFits(t, f, wagon, class, weight, api.ErrWagon)
				}
			}
		}
	}
	for _, f := range []api.Fleet{{}, types(3)} {
		checkFits(t, f, 0, 0, 0, api.ErrWagon)
	}
}

// P9.4: the type of the wagon counts, neither the wagon's number nor any other type.
func TestFitsType(t *testing.T) {
	f := example()
	f.Types[1].Classes = 1 << 3
	f.Types[2].Classes = 1 << 63
	f.Wagons = []api.Wagon{{Type: 2}, {Type: 0}, {Type: 1}, {Type: 2}}
	for wagon, c := range [][2]int{{63, 40000}, {2, 60000}, {3, 50000}, {63, 40000}} {
		for class := range 64 {
			want := api.ErrFit
			if class == c[0] || c[0] == 2 && class == 1 {
				want = api.OK
			}
			checkFits(t, f, wagon, class, c[1], want)
			checkFits(t, f, wagon, class, c[1]+1, api.ErrFit)
		}
	}
}

// P9.4: random fleets.
func TestFitsRandom(t *testing.T) {
	r := rand.New(rand.NewSource(51))
	for _, f := range someFleets(52, 100) {
		for range 300 {
			wagon, class, weight := r.Intn(len(f.Wagons)+2)-1, r.Intn(66)-1, r.Intn(1000002)-1
			checkFits(t, f, wagon, class, weight, fitsOf(f, wagon, class, weight))
		}
	}
}
