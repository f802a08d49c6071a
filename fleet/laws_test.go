package fleet_test

import (
	"math/rand"
	"slices"
	"testing"

	"wagonpool/api"
	"wagonpool/fleet"
)

// P9.8: the cost of each type is at most that of another one plus the cost of a swap from that one, and equal for some swap unless the type is wanted itself.
func TestGivenCosts(t *testing.T) {
	for _, f := range append(someFleets(91, 400), example(), crowded(), types(5)) {
		for wanted := range f.Types {
			l, e := fleet.Given(f, wanted)
			if e != api.OK || !slices.Contains(l, api.Swap{Wanted: wanted, Given: wanted, Cost: 0}) {
				t.Fatalf("Given(%d) in %s: %v, %v", wanted, shown(f), l, e)
			}
			costs := costsOf(t, f, wanted, l)
			attained := map[int]bool{wanted: true}
			for _, s := range f.Swaps {
				before, known := costs[s.Wanted]
				if !known {
					continue
				}
				cost, known := costs[s.Given]
				if !known || cost > before+s.Cost {
					t.Fatalf("Given(%d) in %s: %v, in spite of the swap %v", wanted, shown(f), l, s)
				}
				if cost == before+s.Cost {
					attained[s.Given] = true
				}
			}
			for g := range costs {
				if !attained[g] {
					t.Fatalf("Given(%d) in %s: %v, but no swap leads to %d at this cost", wanted, shown(f), l, g)
				}
			}
		}
	}
}

// costsOf returns the costs of a result of Given, and checks that its types are increasing.
func costsOf(t *testing.T, f api.Fleet, wanted int, l []api.Swap) map[int]int {
	t.Helper()
	costs, before := map[int]int{}, -1
	for _, s := range l {
		if s.Wanted != wanted || s.Given <= before || s.Given >= len(f.Types) || s.Cost < 0 {
			t.Fatalf("Given(%d) in %s: %v", wanted, shown(f), l)
		}
		before = s.Given
		costs[s.Given] = s.Cost
	}
	return costs
}

// P9.8: an additional swap makes no type more expensive, and none unreachable.
func TestGivenMoreSwaps(t *testing.T) {
	r := rand.New(rand.NewSource(92))
	for _, f := range someFleets(93, 300) {
		n := len(f.Types)
		if n < 2 {
			continue
		}
		w := r.Intn(n)
		more := f
		more.Swaps = slices.Insert(slices.Clone(f.Swaps), r.Intn(len(f.Swaps)+1), api.Swap{Wanted: w, Given: (w + 1 + r.Intn(n-1)) % n, Cost: r.Intn(50)})
		for wanted := range n {
			l, _ := fleet.Given(f, wanted)
			m, e := fleet.Given(more, wanted)
			costs := costsOf(t, more, wanted, m)
			for _, s := range l {
				if cost, known := costs[s.Given]; e != api.OK || !known || cost > s.Cost {
					t.Fatalf("Given(%d) in %s: %v, and with one swap more: %v, %v", wanted, shown(f), l, m, e)
				}
			}
		}
	}
}

// P9.8: the worth of a wagon never increases with time.
func TestWorthDecreases(t *testing.T) {
	r := rand.New(rand.NewSource(94))
	for _, f := range append(someFleets(95, 150), example()) {
		for wagon, w := range f.Wagons {
			life := f.Types[w.Type].Life
			times := []int{0, w.Built, min(maxTime, w.Built+1), min(maxTime, w.Built+life), maxTime}
			for range 20 {
				times = append(times, min(maxTime, w.Built+r.Intn(life+1)))
			}
			slices.Sort(times)
			before := w.Worth
			for _, at := range times {
				a, e := fleet.Worth(f, wagon, at)
				if e != api.OK || a < 0 || a > before || at <= w.Built && a != w.Worth {
					t.Fatalf("Worth of wagon %d at %d in %s: %v, %v, and before %v", wagon, at, shown(f), a, e, before)
				}
				before = a
			}
		}
	}
}

// P9.8: a load that fits still fits with a smaller weight, and one that does not fit does not with a greater one.
func TestFitsSmaller(t *testing.T) {
	r := rand.New(rand.NewSource(96))
	for _, f := range append(someFleets(97, 100), example()) {
		for wagon := range f.Wagons {
			for range 20 {
				class, weight := r.Intn(64), r.Intn(1000001)
				switch e := fleet.Fits(f, wagon, class, weight); e {
				case api.OK:
					checkFits(t, f, wagon, class, r.Intn(weight+1), api.OK)
					checkFits(t, f, wagon, class, 0, api.OK)
				case api.ErrFit:
					checkFits(t, f, wagon, class, weight+r.Intn(1000), api.ErrFit)
				default:
					t.Fatalf("Fits of wagon %d in %s: %v", wagon, shown(f), e)
				}
			}
		}
	}
}
