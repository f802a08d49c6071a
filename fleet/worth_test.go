package fleet_test

import (
	"math/rand"
	"testing"

	"wagonpool/api"
	"wagonpool/money"
)

// P9.7: the examples of the chapter.
func TestWorthExamples(t *testing.T) {
	f := example()
	checkWorth(t, f, 0, 0, 1000000, api.OK)
	checkWorth(t, f, 0, 50, 500000, api.OK)
	checkWorth(t, f, 0, 90, 200000, api.OK)
	checkWorth(t, f, 0, 1000, 200000, api.OK)
}

// P9.7: minutes at the ends of time, before and after the wagon was built.
func TestWorthMinutes(t *testing.T) {
	f := example()
	f.Wagons = []api.Wagon{{Type: 0, Built: 500, Worth: 1000}, {Type: 1, Built: maxTime, Worth: 77}, {Type: 2, Built: maxTime - 1, Worth: maxWorth}, {Type: 0, Built: 0, Worth: 0}}
	f.Types[2].Floor = 100
	for _, c := range [][3]int{
		{0, 0, 1000}, {0, 499, 1000}, {0, 500, 1000}, {0, 501, 990}, {0, 580, 200}, {0, 579, 210}, {0, 581, 200}, {0, 600, 200}, {0, maxTime, 200},
		{1, 0, 77}, {1, maxTime - 1, 77}, {1, maxTime, 77},
		{2, 0, maxWorth}, {2, maxTime - 1, maxWorth}, {2, maxTime, maxWorth},
		{3, 0, 0}, {3, 1, 0}, {3, maxTime, 0},
	} {
		checkWorth(t, f, c[0], c[1], c[2], api.OK)
	}
	for wagon := range f.Wagons {
		for _, at := range append(samples, -maxTime, 1<<31, 1<<62) {
			if at < 0 || at > maxTime {
				checkWorth(t, f, wagon, at, 0, api.ErrArg)
			} else {
				checkWorth(t, f, wagon, at, worthOf(f, wagon, at), api.OK)
			}
		}
	}
}

// P9.7: ErrWagon comes before ErrArg, for all numbers that name no wagon.
func TestWorthWagons(t *testing.T) {
	for _, f := range []api.Fleet{{}, types(3), example(), threes(), lists([4]int{2, maxWagons, 0, 0})} {
		n := len(f.Wagons)
		for _, wagon := range append(samples, n, n+1, -n, 4095, 4096) {
			for _, at := range []int{least, -1, 0, maxTime, maxTime + 1, greatest} {
				switch {
				case wagon < 0 || wagon >= n:
					checkWorth(t, f, wagon, at, 0, api.ErrWagon)
				case at < 0 || at > maxTime:
					checkWorth(t, f, wagon, at, 0, api.ErrArg)
				default:
					checkWorth(t, f, wagon, at, worthOf(f, wagon, at), api.OK)
				}
			}
		}
	}
}

// P9.7: the greatest worth, life and time.
func TestWorthGreatest(t *testing.T) {
	for _, life := range []int{1, 2, 3, maxTime - 1, maxTime} {
		for _, floor := range []int{0, 1, 50, 99, 100} {
			for _, built := range []int{0, 1, maxTime - 1, maxTime} {
				f := api.Fleet{Types: []api.WagonType{{Life: life, Floor: floor}}, Wagons: []api.Wagon{{Built: built, Worth: maxWorth}, {Built: built, Worth: maxWorth - 1}, {Built: built, Worth: 1}}}
				for wagon := range f.Wagons {
					for _, at := range []int{0, 1, 2, 3, maxTime / 2, maxTime - 2, maxTime - 1, maxTime} {
						checkWorth(t, f, wagon, at, worthOf(f, wagon, at), api.OK)
					}
				}
			}
		}
	}
}

// P9.7: random wagons at minutes of their lives; Worth is what package money says for the wagon and its type.
func TestWorthRandom(t *testing.T) {
	r := rand.New(rand.NewSource(81))
	for _, f := range someFleets(82, 300) {
		for wagon, w := range f.Wagons {
			kind := f.Types[w.Type]
			for range 5 {
				at := min(maxTime, w.Built+r.Intn(kind.Life+2)-1)
				if at < 0 {
					checkWorth(t, f, wagon, at, 0, api.ErrArg)
					continue
				}
				checkWorth(t, f, wagon, at, worthOf(f, wagon, at), api.OK)
				want, e := money.Worth(w.Worth, w.Built, at, kind.Life, kind.Floor)
				checkWorth(t, f, wagon, at, want, e)
			}
		}
	}
}
