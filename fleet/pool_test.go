package fleet_test

import (
	"math"
	"math/rand"
	"slices"
	"testing"

	"wagonpool/api"
	"wagonpool/fleet"
)

// P9.2: pools that lack some kinds of elements; only railways are necessary.
func TestPoolEmpty(t *testing.T) {
	checkPool(t, examplePool(), api.OK)
	checkPool(t, api.Pool{}, api.ErrArg)
	checkPool(t, api.Pool{Railways: []api.RailwayInfo{{Key: key(5)}}}, api.OK)
	for i, c := range []struct {
		leaveOut func(p *api.Pool)
		want     api.Errno
	}{
		{func(p *api.Pool) { p.Readers = nil }, api.OK},
		{func(p *api.Pool) { p.Shippers = nil }, api.OK},
		{func(p *api.Pool) { p.Network.Edges = nil }, api.OK},
		{func(p *api.Pool) { p.Fleet = api.Fleet{} }, api.OK},
		{func(p *api.Pool) { p.Fleet.Wagons = nil }, api.OK},
		{func(p *api.Pool) { p.Fleet.Swaps, p.Fleet.Washes, p.Fleet.Wagons = nil, nil, nil }, api.OK},
		{func(p *api.Pool) { p.Fleet.Types, p.Fleet.Swaps = nil, nil }, api.ErrArg},
		{func(p *api.Pool) { p.Railways = nil }, api.ErrArg},
		{func(p *api.Pool) { p.Railways = p.Railways[:2] }, api.ErrArg},
		{func(p *api.Pool) { p.Network = api.Network{} }, api.ErrArg},
		{func(p *api.Pool) { p.Network.Places, p.Network.Edges = p.Network.Places[:6], nil }, api.ErrArg},
		{func(p *api.Pool) {
			p.Network, p.Readers, p.Shippers, p.Fleet.Wagons = api.Network{}, nil, nil, nil
		}, api.OK},
		{func(p *api.Pool) {
			p.Network, p.Readers, p.Shippers, p.Fleet.Wagons, p.Railways = api.Network{}, nil, nil, nil, nil
		}, api.ErrArg},
	} {
		p := examplePool()
		c.leaveOut(&p)
		if e := fleet.CheckPool(p); e != c.want {
			t.Errorf("case %d: %v, want %v", i, e, c.want)
		}
	}
}

// P9.2: each sample in each field of a pool.
func TestPoolSamples(t *testing.T) {
	p := examplePool()
	p.Railways[0].Calendar.Holidays = []int{0, 1440, lastDay}
	checkPool(t, p, api.OK)
	for i := range integers(&p) {
		for _, value := range samples {
			q := copied(p)
			*integers(&q)[i] = value
			checkPool(t, q, checkPoolOf(q))
		}
	}
}

// P9.2: two fields of a pool with samples that are valid somewhere.
func TestPoolTwoFields(t *testing.T) {
	r := rand.New(rand.NewSource(41))
	for range 20000 {
		p := copied(examplePool())
		fields := integers(&p)
		for range 2 {
			*fields[r.Intn(len(fields))] = []int{-1000, -1, 0, 1, 2, 3, 4, 5, 6, 7, 1000}[r.Intn(11)]
		}
		checkPool(t, p, checkPoolOf(p))
	}
}

// P9.2: the numbers of readers, shippers and railways.
func TestPoolLimits(t *testing.T) {
	for _, c := range []struct {
		readers, shippers, railways int
		want                        api.Errno
	}{
		{0, 0, 3, api.OK}, {255, 255, 15, api.OK}, {256, 256, 16, api.OK}, {256, 0, 3, api.OK}, {0, 256, 3, api.OK}, {0, 0, 16, api.OK},
		{257, 0, 3, api.ErrLimit}, {0, 257, 3, api.ErrLimit}, {0, 0, 17, api.ErrLimit},
		{257, 256, 16, api.ErrLimit}, {256, 257, 16, api.ErrLimit}, {256, 256, 17, api.ErrLimit},
		{257, 0, 0, api.ErrLimit}, {0, 257, 0, api.ErrLimit}, {0, 0, 0, api.ErrArg}, {10000, 10000, 10000, api.ErrLimit},
	} {
		p := examplePool()
		p.Readers = slices.Repeat(p.Readers[1:], c.readers)
		p.Shippers = slices.Repeat(p.Shippers[:1], c.shippers)
		p.Railways = slices.Repeat(p.Railways[:1], c.railways)
		checkPool(t, p, c.want)
	}
}

// spoil is a way to spoil a pool, with the error that follows.
type spoil struct {
	name  string
	apply func(p *api.Pool)
	want  api.Errno
}

// spoils are in the order in which the chapter mentions the errors.
func spoils() []spoil {
	return []spoil{
		{"places", func(p *api.Pool) { p.Network.Places = slices.Repeat(p.Network.Places[:1], 513) }, api.ErrLimit},
		{"lines", func(p *api.Pool) { p.Network.Edges = slices.Repeat(p.Network.Edges[:1], 2049) }, api.ErrLimit},
		{"a place", func(p *api.Pool) { p.Network.Places[0].Kind = 6 }, api.ErrArg},
		{"a line", func(p *api.Pool) { p.Network.Edges[0].Minutes = 0 }, api.ErrArg},
		{"types", func(p *api.Pool) { p.Fleet.Types = slices.Repeat(p.Fleet.Types, 11) }, api.ErrLimit},
		{"wagons", func(p *api.Pool) { p.Fleet.Wagons = slices.Repeat(p.Fleet.Wagons, 1366) }, api.ErrLimit},
		{"swaps", func(p *api.Pool) { p.Fleet.Swaps = slices.Repeat(p.Fleet.Swaps, 342) }, api.ErrLimit},
		{"washes", func(p *api.Pool) { p.Fleet.Washes = manyWashes(4097) }, api.ErrLimit},
		{"a type", func(p *api.Pool) { p.Fleet.Types[0].Floor = 101 }, api.ErrArg},
		{"a wagon", func(p *api.Pool) { p.Fleet.Wagons[0].Built = -1 }, api.ErrArg},
		{"a swap", func(p *api.Pool) { p.Fleet.Swaps[0].Cost = -1 }, api.ErrArg},
		{"a wash", func(p *api.Pool) { p.Fleet.Washes[0].Minutes = -1 }, api.ErrArg},
		{"readers", func(p *api.Pool) { p.Readers = slices.Repeat(p.Readers, 129) }, api.ErrLimit},
		{"shippers", func(p *api.Pool) { p.Shippers = slices.Repeat(p.Shippers, 86) }, api.ErrLimit},
		{"railways", func(p *api.Pool) { p.Railways = slices.Repeat(p.Railways, 6) }, api.ErrLimit},
		{"a key", func(p *api.Pool) { p.Railways[0].Key = 1 }, api.ErrArg},
		{"a calendar", func(p *api.Pool) { p.Railways[1].Calendar.Holidays = []int{-1} }, api.ErrArg},
		{"a reader", func(p *api.Pool) { p.Readers[0].Low = 6 }, api.ErrArg},
		{"a shipper", func(p *api.Pool) { p.Shippers[0].Place = 0 }, api.ErrArg},
		{"a home", func(p *api.Pool) { p.Fleet.Wagons[2].Home = 511 }, api.ErrArg},
		{"a railway of a place", func(p *api.Pool) { p.Network.Places[4].Railway = 15 }, api.ErrArg},
		{"an interchange", func(p *api.Pool) { p.Network.Places[6].Other = 15 }, api.ErrArg},
		{"a railway of a line", func(p *api.Pool) { p.Network.Edges[2].Railway = 15 }, api.ErrArg},
	}
}

// P9.2: each error alone.
func TestPoolErrors(t *testing.T) {
	for _, s := range spoils() {
		t.Run(s.name, func(t *testing.T) {
			p := copied(examplePool())
			s.apply(&p)
			checkPool(t, p, s.want)
		})
	}
}

// P9.2: of two errors, the one that the chapter mentions first counts.
func TestPoolOrder(t *testing.T) {
	list := spoils()
	for i, first := range list {
		for _, second := range list[i+1:] {
			for _, order := range [][]spoil{{first, second}, {second, first}} {
				p := copied(examplePool())
				for _, s := range order {
					s.apply(&p)
				}
				if e := fleet.CheckPool(p); e != first.want {
					t.Fatalf("%s and %s: %v, want %v", order[0].name, order[1].name, e, first.want)
				}
			}
		}
	}
}

// P9.2: the error of the network comes before that of the fleet, and this one before all others, with both errors in both.
func TestPoolParts(t *testing.T) {
	spoil := func(p *api.Pool, name string) {
		for _, s := range spoils() {
			if s.name == name {
				s.apply(p)
			}
		}
	}
	for _, c := range []struct {
		names []string
		want  api.Errno
	}{
		{[]string{"a place", "types", "readers"}, api.ErrArg}, {[]string{"a line", "washes", "railways"}, api.ErrArg},
		{[]string{"places", "a type", "a key"}, api.ErrLimit}, {[]string{"lines", "a wash", "a key"}, api.ErrLimit},
		{[]string{"a type", "readers"}, api.ErrArg}, {[]string{"a wash", "shippers"}, api.ErrArg}, {[]string{"a swap", "railways"}, api.ErrArg},
		{[]string{"wagons", "a key"}, api.ErrLimit}, {[]string{"swaps", "a reader"}, api.ErrLimit},
		{[]string{"readers", "a key"}, api.ErrLimit}, {[]string{"shippers", "a calendar"}, api.ErrLimit}, {[]string{"railways", "a shipper"}, api.ErrLimit},
	} {
		for range 2 {
			p := copied(examplePool())
			for _, name := range c.names {
				spoil(&p, name)
			}
			checkPool(t, p, c.want)
			slices.Reverse(c.names)
		}
	}
}

// P9.2: keys at the bounds, squares and others, for each railway.
func TestPoolKeys(t *testing.T) {
	r := rand.New(rand.NewSource(42))
	keys := []uint64{0, 1, 2, 3, 4, 5, 9, 16, 1 << 32, api.Q - 1, api.Q, api.Q + 1, api.P - 4, api.P - 2, api.P - 1, api.P, api.P + 1, api.P + 4, 1<<62 - 1, 1 << 63, math.MaxUint64}
	for range 60 {
		keys = append(keys, r.Uint64()>>3, r.Uint64())
	}
	for _, k := range keys {
		for i := range 3 {
			p := copied(examplePool())
			p.Railways[i].Key = k
			checkPool(t, p, errno(isKey(k)))
		}
	}
	p := examplePool()
	p.Railways[1].Key, p.Railways[2].Key = p.Railways[0].Key, p.Railways[0].Key
	checkPool(t, p, api.OK)
}

// P9.2: calendars of each railway.
func TestPoolCalendars(t *testing.T) {
	for i := range 3 {
		check := func(c api.Calendar, want api.Errno) {
			t.Helper()
			p := copied(examplePool())
			p.Railways[i].Calendar = c
			checkPool(t, p, want)
		}
		check(api.Calendar{}, api.OK)
		for day := range 7 {
			for _, from := range samples {
				for _, to := range []int{-1, 0, 1, 1439, 1440, 1441} {
					var c api.Calendar
					c.Open[day] = api.Span{From: from, To: to}
					check(c, errno(from >= 0 && from <= to && to <= 1440))
				}
			}
		}
		for _, l := range [][]int{nil, {0}, {lastDay}, {0, 1, 2}, {5, 1000, lastDay - 1, lastDay}} {
			check(api.Calendar{Holidays: l}, api.OK)
		}
		for _, l := range [][]int{{-1}, {lastDay + 1}, {1, 0}, {3, 3}, {0, 1, 2, 2}, {least}, {greatest}} {
			check(api.Calendar{Holidays: l}, api.ErrArg)
		}
	}
}

// P9.2: all pairs of samples as the bounds of a clock, and the places of readers.
func TestPoolReaders(t *testing.T) {
	for at := range 3 {
		check := func(r api.Reader, want api.Errno) {
			t.Helper()
			p := copied(examplePool())
			p.Readers = slices.Insert(p.Readers, at, r)
			checkPool(t, p, want)
		}
		for _, low := range samples {
			for _, high := range samples {
				check(api.Reader{Place: 1, Low: low, High: high}, errno(-1000 <= low && low <= high && high <= 1000))
			}
		}
		for _, place := range append(samples, 6, 7) {
			check(api.Reader{Place: place}, errno(0 <= place && place < 7))
			check(api.Reader{Place: place, Low: -1000, High: 1000}, errno(0 <= place && place < 7))
		}
	}
}

// P9.2: a shipper has a siding; several ones may have the same one.
func TestPoolShippers(t *testing.T) {
	for at := range 4 {
		for _, place := range append(samples, 6, 7) {
			p := copied(examplePool())
			p.Shippers = slices.Insert(p.Shippers, at, api.Shipper{Place: place})
			checkPool(t, p, errno(place == 2 || place == 5))
		}
	}
	for kind := 1; kind <= 5; kind++ {
		for _, at := range []int{0, 2} {
			p := copied(examplePool())
			p.Shippers = []api.Shipper{{Place: 2}}
			p.Network.Places[at] = api.Place{Kind: kind, Railway: 1, Other: -1}
			if kind == api.Interchange {
				p.Network.Places[at].Other = 2
			}
			checkPool(t, p, errno(kind == api.Siding || at == 0))
		}
	}
}

// P9.2: the homes of wagons, which Check bounds by 511 only.
func TestPoolHomes(t *testing.T) {
	for at := range 3 {
		for _, home := range append(samples, 510) {
			p := copied(examplePool())
			p.Fleet.Wagons[at].Home = home
			checkPool(t, p, errno(0 <= home && home < 7))
			if home >= 7 && home < 512 {
				checkErrno(t, p.Fleet, api.OK)
			}
			for len(p.Network.Places) < 512 {
				p.Network.Places = append(p.Network.Places, api.Place{Kind: api.Yard, Railway: 2, Other: -1})
			}
			checkPool(t, p, errno(0 <= home && home < 512))
		}
	}
}

// P9.2: the railways of places and lines are those of the pool, for each number of railways.
func TestPoolRailways(t *testing.T) {
	for n := 1; n <= 16; n++ {
		for railway := -1; railway <= 17; railway++ {
			known := errno(0 <= railway && railway < n)
			p := api.Pool{Railways: slices.Repeat([]api.RailwayInfo{{Key: key(7)}}, n)}
			p.Network.Places = []api.Place{{Kind: api.Station, Railway: 0, Other: -1}, {Kind: api.Station, Railway: 0, Other: -1}}
			p.Network.Edges = []api.Edge{{A: 0, B: 1, Railway: 0, Minutes: 1}, {A: 0, B: 1, Railway: railway, Minutes: 1}}
			checkPool(t, p, known)
			p.Network.Edges = nil
			for _, kind := range []int{api.Station, api.Yard, api.Siding, api.Shop} {
				p.Network.Places[1] = api.Place{Kind: kind, Railway: railway, Other: -1}
				checkPool(t, p, known)
			}
			for other := -1; other <= 17; other++ {
				p.Network.Places[1] = api.Place{Kind: api.Interchange, Railway: railway, Other: other}
				checkPool(t, p, errno(known == api.OK && 0 <= other && other < n && railway != other))
			}
		}
	}
}
