package fleet_test

import (
	"math/rand"
	"testing"

	"wagonpool/api"
)

// P9.6: the examples of the chapter.
func TestCleanExamples(t *testing.T) {
	f := example()
	checkClean(t, f, 1, 2, 90, api.OK)
	checkClean(t, f, 2, 1, 0, api.OK)
	checkClean(t, f, 1, 64, 0, api.ErrArg)
}

// P9.6: all pairs of classes and numbers next to them: without washes, with one, and with all that there can be.
func TestCleanClasses(t *testing.T) {
	one := api.Fleet{Washes: []api.Wash{{From: 63, To: 0, Minutes: 100000}}}
	all := api.Fleet{Washes: manyWashes(4032)}
	for from := -2; from <= 66; from++ {
		for to := -2; to <= 66; to++ {
			if from < 0 || from > 63 || to < 0 || to > 63 {
				checkClean(t, api.Fleet{}, from, to, 0, api.ErrArg)
				checkClean(t, one, from, to, 0, api.ErrArg)
				checkClean(t, all, from, to, 0, api.ErrArg)
				continue
			}
			checkClean(t, api.Fleet{}, from, to, 0, api.OK)
			wantOne, wantAll := 0, 100*from+to
			if from == 63 && to == 0 {
				wantOne = 100000
			}
			if from == to {
				wantAll = 0
			}
			checkClean(t, one, from, to, wantOne, api.OK)
			checkClean(t, all, from, to, wantAll, api.OK)
		}
	}
}

// P9.6: classes far outside.
func TestCleanSamples(t *testing.T) {
	f := api.Fleet{Washes: []api.Wash{{From: 1, To: 2, Minutes: 90}, {From: 2, To: 1, Minutes: 60}, {From: 0, To: 63, Minutes: 0}}}
	for _, from := range samples {
		for _, to := range samples {
			want, errno := cleanOf(f, from, to)
			checkClean(t, f, from, to, want, errno)
		}
		if from < 0 || from > 63 {
			checkClean(t, f, from, 2, 0, api.ErrArg)
			checkClean(t, f, 1, from, 0, api.ErrArg)
			checkClean(t, f, from, from, 0, api.ErrArg)
		}
	}
}

// P9.6: both directions are washes of their own, the bounds of the minutes, and washes that share one class with others.
func TestCleanDirections(t *testing.T) {
	f := api.Fleet{Washes: []api.Wash{{From: 5, To: 6, Minutes: 10}, {From: 6, To: 5, Minutes: 20}, {From: 5, To: 7, Minutes: 0}, {From: 7, To: 6, Minutes: 100000}, {From: 6, To: 7, Minutes: 1}}}
	for _, c := range [][3]int{{5, 6, 10}, {6, 5, 20}, {5, 7, 0}, {7, 5, 0}, {7, 6, 100000}, {6, 7, 1}, {5, 5, 0}, {6, 6, 0}, {7, 7, 0}, {0, 6, 0}, {5, 0, 0}} {
		checkClean(t, f, c[0], c[1], c[2], api.OK)
	}
}

// P9.6: fleets of all sorts, with a wash of a class through others that costs less than the direct one: only the direct one counts.
func TestCleanRandom(t *testing.T) {
	through := api.Fleet{Washes: []api.Wash{{From: 1, To: 3, Minutes: 90}, {From: 1, To: 2, Minutes: 10}, {From: 2, To: 3, Minutes: 10}, {From: 3, To: 4, Minutes: 10}}}
	checkClean(t, through, 1, 3, 90, api.OK)
	checkClean(t, through, 1, 4, 0, api.OK)
	r := rand.New(rand.NewSource(71))
	for _, f := range someFleets(72, 200) {
		for range 100 {
			from, to := r.Intn(66)-1, r.Intn(66)>>r.Intn(5)-1
			want, errno := cleanOf(f, from, to)
			checkClean(t, f, from, to, want, errno)
		}
		for _, w := range f.Washes {
			checkClean(t, f, w.From, w.To, w.Minutes, api.OK)
		}
	}
}
