package fleet_test

import (
	"math/rand"
	"slices"
	"testing"

	"wagonpool/api"
)

// given returns swaps for a wanted type, each with a type and a cost.
func given(wanted int, l ...[2]int) (swaps []api.Swap) {
	for _, x := range l {
		swaps = append(swaps, api.Swap{Wanted: wanted, Given: x[0], Cost: x[1]})
	}
	return swaps
}

// P9.5: the examples of the chapter.
func TestGivenExamples(t *testing.T) {
	f := example()
	checkGiven(t, f, 0, given(0, [2]int{0, 0}, [2]int{1, 5}, [2]int{2, 12}), api.OK)
	checkGiven(t, f, 1, given(1, [2]int{1, 0}, [2]int{2, 7}), api.OK)
	checkGiven(t, f, 2, given(2, [2]int{2, 0}), api.OK)
	checkGiven(t, f, 3, nil, api.ErrWagon)
}

// P9.5: swaps by hand; the results do not depend on the order of the swaps.
func TestGivenChains(t *testing.T) {
	for _, c := range []struct {
		name  string
		types int
		swaps []api.Swap
		want  []api.Swap
	}{
		{"no swap", 3, nil, given(0, [2]int{0, 0})},
		{"one type", 1, nil, given(0, [2]int{0, 0})},
		{"only from another type", 3, []api.Swap{{Wanted: 1, Given: 0, Cost: 5}, {Wanted: 2, Given: 1, Cost: 5}}, given(0, [2]int{0, 0})},
		{"a longer chain costs less", 4, []api.Swap{{Wanted: 0, Given: 3, Cost: 10}, {Wanted: 0, Given: 1, Cost: 3}, {Wanted: 1, Given: 2, Cost: 3}, {Wanted: 2, Given: 3, Cost: 3}}, given(0, [2]int{0, 0}, [2]int{1, 3}, [2]int{2, 6}, [2]int{3, 9})},
		{"a longer chain costs the same", 3, []api.Swap{{Wanted: 0, Given: 2, Cost: 6}, {Wanted: 0, Given: 1, Cost: 3}, {Wanted: 1, Given: 2, Cost: 3}}, given(0, [2]int{0, 0}, [2]int{1, 3}, [2]int{2, 6})},
		{"a longer chain costs more", 3, []api.Swap{{Wanted: 0, Given: 2, Cost: 5}, {Wanted: 0, Given: 1, Cost: 3}, {Wanted: 1, Given: 2, Cost: 3}}, given(0, [2]int{0, 0}, [2]int{1, 3}, [2]int{2, 5})},
		{"downwards", 4, []api.Swap{{Wanted: 0, Given: 3, Cost: 1}, {Wanted: 3, Given: 2, Cost: 1}, {Wanted: 2, Given: 1, Cost: 1}}, given(0, [2]int{0, 0}, [2]int{1, 3}, [2]int{2, 2}, [2]int{3, 1})},
		{"a cycle", 3, []api.Swap{{Wanted: 0, Given: 1, Cost: 1}, {Wanted: 1, Given: 2, Cost: 1}, {Wanted: 2, Given: 0, Cost: 1}}, given(0, [2]int{0, 0}, [2]int{1, 1}, [2]int{2, 2})},
		{"a cycle without costs", 3, []api.Swap{{Wanted: 0, Given: 1}, {Wanted: 1, Given: 0}, {Wanted: 1, Given: 2}, {Wanted: 2, Given: 1}}, given(0, [2]int{0, 0}, [2]int{1, 0}, [2]int{2, 0})},
		{"a cycle that is not reached", 4, []api.Swap{{Wanted: 0, Given: 3, Cost: 2}, {Wanted: 1, Given: 2}, {Wanted: 2, Given: 1}, {Wanted: 1, Given: 3}}, given(0, [2]int{0, 0}, [2]int{3, 2})},
		{"several swaps between two types", 2, []api.Swap{{Wanted: 0, Given: 1, Cost: 5}, {Wanted: 0, Given: 1, Cost: 4}, {Wanted: 0, Given: 1, Cost: 6}, {Wanted: 1, Given: 0, Cost: 1}}, given(0, [2]int{0, 0}, [2]int{1, 4})},
		{"one direction only", 3, []api.Swap{{Wanted: 1, Given: 0, Cost: 1}, {Wanted: 0, Given: 2, Cost: 1}}, given(0, [2]int{0, 0}, [2]int{2, 1})},
		{"gaps", 32, []api.Swap{{Wanted: 0, Given: 31, Cost: 1}, {Wanted: 31, Given: 15, Cost: 0}}, given(0, [2]int{0, 0}, [2]int{15, 1}, [2]int{31, 1})},
		{"costs 0", 3, []api.Swap{{Wanted: 0, Given: 1, Cost: 0}, {Wanted: 0, Given: 2, Cost: 1}, {Wanted: 1, Given: 2, Cost: 0}}, given(0, [2]int{0, 0}, [2]int{1, 0}, [2]int{2, 0})},
		{"the greatest cost", 3, []api.Swap{{Wanted: 0, Given: 1, Cost: maxCost}, {Wanted: 1, Given: 2, Cost: maxCost}}, given(0, [2]int{0, 0}, [2]int{1, maxCost}, [2]int{2, 2 * maxCost})},
	} {
		t.Run(c.name, func(t *testing.T) {
			r := rand.New(rand.NewSource(61))
			for range 30 {
				checkGiven(t, types(c.types, c.swaps...), 0, c.want, api.OK)
				r.Shuffle(len(c.swaps), func(i, j int) { c.swaps[i], c.swaps[j] = c.swaps[j], c.swaps[i] })
			}
		})
	}
}

// P9.5: numbers that name no type.
func TestGivenTypes(t *testing.T) {
	for n := range maxTypes + 1 {
		f := types(n)
		for _, wanted := range append(samples, n-1, n, n+1, -n) {
			if wanted >= 0 && wanted < n {
				checkGiven(t, f, wanted, given(wanted, [2]int{wanted, 0}), api.OK)
			} else {
				checkGiven(t, f, wanted, nil, api.ErrWagon)
			}
		}
	}
	checkGiven(t, api.Fleet{}, 0, nil, api.ErrWagon)
	checkGiven(t, types(1), 0, given(0, [2]int{0, 0}), api.OK)
}

// crowded returns the greatest fleet whose cheapest chains are the longest: a swap from each type to the next one, and swaps back; all have the greatest cost.
func crowded() (f api.Fleet) {
	f = types(maxTypes)
	for w := range maxTypes {
		for g := range min(w+2, maxTypes) {
			if w != g {
				f.Swaps = append(f.Swaps, api.Swap{Wanted: w, Given: g, Cost: maxCost})
			}
		}
	}
	missing := maxSwaps - len(f.Swaps)
	f.Swaps = append(f.Swaps, f.Swaps[:missing]...)
	return f
}

// P9.5: the greatest numbers of types and swaps with the greatest costs.
func TestGivenGreatest(t *testing.T) {
	f := crowded()
	if len(f.Types) != maxTypes || len(f.Swaps) != maxSwaps {
		t.Fatal(len(f.Types), len(f.Swaps))
	}
	for range 2 {
		for wanted := range maxTypes {
			var want []api.Swap
			for g := range maxTypes {
				steps := g - wanted
				if g < wanted {
					steps = 1
				}
				want = append(want, api.Swap{Wanted: wanted, Given: g, Cost: steps * maxCost})
			}
			checkGiven(t, f, wanted, want, api.OK)
		}
		checkGiven(t, f, maxTypes, nil, api.ErrWagon)
		slices.Reverse(f.Swaps)
	}
}

// P9.5: a chain through all types in random order, whose swaps stand in random order.
func TestGivenLongChain(t *testing.T) {
	r := rand.New(rand.NewSource(62))
	for range 200 {
		order := r.Perm(maxTypes)
		f := types(maxTypes)
		cost, want := 0, given(order[0], [2]int{order[0], 0})
		for i := 1; i < maxTypes; i++ {
			step := r.Intn(maxCost + 1)
			cost += step
			f.Swaps = append(f.Swaps, api.Swap{Wanted: order[i-1], Given: order[i], Cost: step})
			want = append(want, api.Swap{Wanted: order[0], Given: order[i], Cost: cost})
		}
		r.Shuffle(len(f.Swaps), func(i, j int) { f.Swaps[i], f.Swaps[j] = f.Swaps[j], f.Swaps[i] })
		slices.SortFunc(want, func(a, b api.Swap) int { return a.Given - b.Given })
		checkGiven(t, f, order[0], want, api.OK)
		last := order[maxTypes-1]
		checkGiven(t, f, last, given(last, [2]int{last, 0}), api.OK)
	}
}

// P9.5: all fleets of three types with at most one swap for each two types, with costs of 0 to 3.
func TestGivenSmall(t *testing.T) {
	for code := range 5 * 5 * 5 * 5 * 5 * 5 {
		f := types(3)
		rest := code
		for _, ends := range [][2]int{{0, 1}, {1, 2}, {2, 0}, {1, 0}, {2, 1}, {0, 2}} {
			if cost := rest % 5; cost < 4 {
				f.Swaps = append(f.Swaps, api.Swap{Wanted: ends[0], Given: ends[1], Cost: cost})
			}
			rest /= 5
		}
		for wanted := range 3 {
			checkGiven(t, f, wanted, givenOf(f, wanted), api.OK)
		}
	}
}

// P9.5: random fleets.
func TestGivenRandom(t *testing.T) {
	for _, f := range someFleets(63, 1000) {
		for wanted := range f.Types {
			checkGiven(t, f, wanted, givenOf(f, wanted), api.OK)
		}
		checkGiven(t, f, -1, nil, api.ErrWagon)
		checkGiven(t, f, len(f.Types), nil, api.ErrWagon)
	}
}

// chains calls visit for each chain from a type that visits no type twice, with its end and its cost.
func chains(f api.Fleet, from, cost int, visited []int, visit func(given, cost int)) {
	visit(from, cost)
	for _, s := range f.Swaps {
		if s.Wanted == from && !slices.Contains(visited, s.Given) {
			chains(f, s.Given, cost+s.Cost, append(slices.Clone(visited), s.Given), visit)
		}
	}
}

// P9.5: the least of the costs of all chains, which are listed; a chain that visits a type twice costs no less.
func TestGivenAllChains(t *testing.T) {
	r := rand.New(rand.NewSource(64))
	for range 500 {
		n := 1 + r.Intn(6)
		f := types(n)
		for range r.Intn(15) {
			if w, g := r.Intn(n), r.Intn(n); w != g {
				f.Swaps = append(f.Swaps, api.Swap{Wanted: w, Given: g, Cost: r.Intn(30)})
			}
		}
		for wanted := range n {
			costs := map[int]int{}
			chains(f, wanted, 0, []int{wanted}, func(given, cost int) {
				if c, known := costs[given]; !known || cost < c {
					costs[given] = cost
				}
			})
			var want []api.Swap
			for g := range n {
				if c, known := costs[g]; known {
					want = append(want, api.Swap{Wanted: wanted, Given: g, Cost: c})
				}
			}
			checkGiven(t, f, wanted, want, api.OK)
		}
	}
}
