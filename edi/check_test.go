package edi_test

import (
	"math/rand"
	"slices"
	"strings"
	"testing"

	"wagonpool/api"
	"wagonpool/fleet"
)

// P11.1: items of all kinds with their least, greatest and other values.
func TestCheckValid(t *testing.T) {
	p := examplePool()
	for i, it := range validItems() {
		if it.Kind != i%15+1 {
			t.Fatalf("item %d is of the kind %d", i, it.Kind)
		}
		checkItem(t, p, it, api.OK)
	}
}

// P11.1: only the kinds from 1 to 15.
func TestCheckKinds(t *testing.T) {
	p := examplePool()
	for _, kind := range append(samples, 14) {
		checkItem(t, p, api.Item{Kind: kind, Ref: api.Ref{No: 1}}, checkOf(p, api.Item{Kind: kind, Ref: api.Ref{No: 1}}))
		for _, it := range validItems() {
			if it.Kind = kind; kind < 1 || kind > 15 {
				checkItem(t, p, it, api.ErrItem)
			}
			checkItem(t, p, it, checkOf(p, it))
		}
	}
	checkItem(t, p, api.Item{}, api.ErrItem)
}

// ranges are the numbers that each kind of item uses, with the least and the greatest value in the example pool; From and To are those of the middle items.
var ranges = [...]map[string][2]int{
	api.ItRead:     {"Wagon": {0, 6}, "Other": {0, 4}, "From": {0, maxTime}},
	api.ItStay:     {"Wagon": {0, 6}, "Place": {0, 8}, "From": {0, 200}, "To": {100, maxTime}},
	api.ItDeliver:  {"Wagon": {0, 6}, "Place": {5, 5}, "From": {0, maxTime}, "Code": {0, 8}},
	api.ItReceive:  {"Wagon": {0, 6}, "Place": {5, 5}, "From": {0, maxTime}, "Code": {0, 8}},
	api.ItWaybill:  {"Number": {1, billion}, "Wagon": {0, 6}, "Other": {0, 5}, "Place": {0, 8}, "Dest": {0, 8}, "Class": {0, 63}, "Weight": {0, 1000000}, "From": {0, maxTime}},
	api.ItPlaced:   {"Wagon": {0, 6}, "Place": {0, 8}, "Other": {0, 5}, "From": {0, maxTime}, "Code": {0, 1}},
	api.ItReleased: {"Wagon": {0, 6}, "Place": {0, 8}, "Other": {0, 5}, "From": {0, maxTime}},
	api.ItDamaged:  {"Wagon": {0, 6}, "From": {0, maxTime}, "Code": {1, 9}},
	api.ItRepaired: {"Wagon": {0, 6}, "Place": {8, 8}, "From": {0, 200}, "To": {100, maxTime}, "Code": {1, 2}, "Amount": {0, billion}},
	api.ItRecall:   {"Other": {0, 63}},
	api.ItTariff:   {"Number": {1, 6}, "From": {0, maxTime}},
	api.ItAmend:    {"Number": {1, 6}, "From": {0, maxTime}},
	api.ItCancel:   {"Number": {1, 6}, "From": {0, maxTime}},
	api.ItRetract:  {},
	api.ItOrder:    {"Other": {0, 5}, "Place": {0, 8}, "Class": {0, 63}, "Number": {0, 2}, "Weight": {1, 1000}, "From": {0, 200}, "To": {100, maxTime}, "Amount": {0, billion}},
}

// P11.1: each number at the least and the greatest value of its range, and one beyond each end.
func TestCheckRanges(t *testing.T) {
	p := examplePool()
	for _, item := range middleItems() {
		for name, r := range ranges[item.Kind] {
			for n, want := range map[int]api.Errno{r[0]: api.OK, r[1]: api.OK, r[0] - 1: api.ErrItem, r[1] + 1: api.ErrItem} {
				it := item
				setNumber(&it, name, n)
				checkItem(t, p, it, want)
			}
		}
	}
}

// P11.4: an item uses no field that its kind does not use.
func TestCheckUnused(t *testing.T) {
	p := examplePool()
	for _, item := range validItems() {
		for _, name := range names() {
			if _, used := ranges[item.Kind][name]; used || name == "Other" && (item.Kind == api.ItDeliver || item.Kind == api.ItReceive) {
				continue
			}
			for _, n := range samples {
				if it := item; n != 0 {
					setNumber(&it, name, n)
					checkItem(t, p, it, api.ErrItem)
				}
			}
		}
		if item.Kind != api.ItTariff && item.Kind != api.ItAmend {
			for _, text := range texts() {
				it := item
				it.Text = text
				checkItem(t, p, it, api.ErrItem)
			}
		}
		if item.Kind != api.ItRepaired && item.Kind != api.ItRecall {
			for _, list := range [][]api.Part{{{}}, {{Kind: 1}}, parts(2, false), parts(16, true), parts(17, true)} {
				it := item
				it.Parts = list
				checkItem(t, p, it, api.ErrItem)
			}
		}
	}
}

// P11.1: To is not before From.
func TestCheckTimes(t *testing.T) {
	p := examplePool()
	for _, item := range middleItems() {
		if item.To == 0 {
			continue
		}
		for _, from := range samples {
			for _, to := range samples {
				it, want := item, api.ErrItem
				it.From, it.To = from, to
				if 0 <= from && from <= to && to <= maxTime {
					want = api.OK
				}
				checkItem(t, p, it, want)
			}
		}
	}
}

// P11.1: a reference is zero, or names a record that a railway may have; a retraction needs one.
func TestCheckRefs(t *testing.T) {
	p := examplePool()
	for _, it := range validItems() {
		for _, railway := range samples {
			for _, no := range samples {
				it.Ref = api.Ref{Railway: railway, No: no}
				want := api.ErrItem
				if 0 <= railway && railway <= 15 && 1 <= no && no <= 4096 || railway == 0 && no == 0 && it.Kind != api.ItRetract {
					want = api.OK
				}
				checkItem(t, p, it, want)
			}
		}
	}
}

// P11.1: deliveries and receipts at interchanges, by one of the two railways of the place or to it.
func TestCheckHandovers(t *testing.T) {
	p := examplePool()
	valid := map[[2]int]bool{{3, 0}: true, {3, 1}: true, {5, 3}: true, {5, 1}: true}
	for _, kind := range []int{api.ItDeliver, api.ItReceive} {
		for _, place := range samples {
			for _, other := range samples {
				want := api.ErrItem
				if valid[[2]int{place, other}] {
					want = api.OK
				}
				checkItem(t, p, api.Item{Kind: kind, Place: place, Other: other}, want)
			}
		}
	}
}

// P11.1: repairs at shops.
func TestCheckShops(t *testing.T) {
	p := examplePool()
	for _, place := range samples {
		want := api.ErrItem
		if place == 4 || place == 8 {
			want = api.OK
		}
		checkItem(t, p, api.Item{Kind: api.ItRepaired, Place: place, Code: 1}, want)
	}
}

// P11.1: numbers of components.
func TestCheckPartCounts(t *testing.T) {
	p := examplePool()
	for n := range 40 {
		repair := api.Item{Kind: api.ItRepaired, Place: 4, Code: 1, Parts: parts(n, true)}
		recall := api.Item{Kind: api.ItRecall, Parts: parts(n, false)}
		want := api.OK
		if n > 16 {
			want = api.ErrItem
		}
		checkItem(t, p, repair, want)
		if n == 0 {
			want = api.ErrItem
		}
		checkItem(t, p, recall, want)
	}
	same := slices.Repeat([]api.Part{{Kind: 2, Serial: 5}}, 16)
	checkItem(t, p, api.Item{Kind: api.ItRecall, Parts: same}, api.OK)
	checkItem(t, p, api.Item{Kind: api.ItRecall, Parts: make([]api.Part, 100000)}, api.ErrItem)
}

// P11.1: each component has a kind and a serial number; only those of a repair may be fitted.
func TestCheckParts(t *testing.T) {
	p := examplePool()
	for _, item := range []api.Item{{Kind: api.ItRepaired, Place: 4, Code: 1}, {Kind: api.ItRecall}} {
		for _, n := range []int{1, 2, 3, 16} {
			for i := range n {
				check := func(part api.Part, want api.Errno) {
					t.Helper()
					it := item
					it.Parts = parts(n, false)
					it.Parts[i] = part
					checkItem(t, p, it, want)
				}
				for _, number := range samples {
					checkKind, checkSerial := api.ErrItem, api.ErrItem
					if number == 1 || number == 2 || number == 3 {
						checkKind = api.OK
					}
					if 0 <= number && number <= 1<<30 {
						checkSerial = api.OK
					}
					check(api.Part{Kind: number, Serial: 5}, checkKind)
					for kind := 1; kind <= 3; kind++ {
						check(api.Part{Kind: kind, Serial: number}, checkSerial)
					}
				}
				fitted := api.ErrItem
				if item.Kind == api.ItRepaired {
					fitted = api.OK
				}
				check(api.Part{Kind: 1, Fitted: true}, fitted)
				check(api.Part{Kind: 0, Fitted: true}, api.ErrItem)
				check(api.Part{Kind: 3, Serial: 1 << 30, Fitted: true}, fitted)
			}
		}
	}
}

// P11.1: texts of tariffs, of any bytes.
func TestCheckTexts(t *testing.T) {
	p := examplePool()
	for _, kind := range []int{api.ItTariff, api.ItAmend} {
		for _, n := range []int{0, 1, 2, 1999, 2000, 2001, 2002, 65536} {
			want := api.OK
			if n < 1 || n > 2000 {
				want = api.ErrItem
			}
			for _, letter := range []string{"a", "\x00", "'", "\xff"} {
				checkItem(t, p, api.Item{Kind: kind, Number: 1, Text: strings.Repeat(letter, n)}, want)
			}
		}
		// 2000 letters of two bytes each are too long.
		checkItem(t, p, api.Item{Kind: kind, Number: 1, Text: strings.Repeat("é", 1000)}, api.OK)
		checkItem(t, p, api.Item{Kind: kind, Number: 1, Text: strings.Repeat("é", 1001)}, api.ErrItem)
	}
}

// P11.1: each sample in each number of an item, its components included.
func TestCheckSamples(t *testing.T) {
	p := examplePool()
	for _, item := range validItems() {
		for i := range integers(&item) {
			for _, n := range samples {
				it := item
				it.Parts = slices.Clone(item.Parts)
				*integers(&it)[i] = n
				checkItem(t, p, it, checkOf(p, it))
			}
		}
	}
	for _, it := range anyItems() {
		checkItem(t, p, it, checkOf(p, it))
	}
}

// P11.1: two or three numbers of an item with samples that are valid somewhere.
func TestCheckTwoNumbers(t *testing.T) {
	p := examplePool()
	r := rand.New(rand.NewSource(1))
	items, valid := validItems(), 0
	for range 20000 {
		it := items[r.Intn(len(items))]
		it.Parts = slices.Clone(it.Parts)
		fields := integers(&it)
		for range 2 + r.Intn(2) {
			*fields[r.Intn(len(fields))] = []int{-1, 0, 0, 0, 1, 2, 3, 4, 5, 6, 8, 9}[r.Intn(12)]
		}
		want := checkOf(p, it)
		checkItem(t, p, it, want)
		if want == api.OK {
			valid++
		}
	}
	if valid < 1000 {
		t.Errorf("only %d items are valid", valid)
	}
}

// P11.1: the ranges depend on the pool; an empty list has no index.
func TestCheckSmallPools(t *testing.T) {
	for i, leaveOut := range []func(p *api.Pool){
		func(p *api.Pool) { p.Fleet.Wagons = nil },
		func(p *api.Pool) { p.Fleet.Wagons = p.Fleet.Wagons[:3] },
		func(p *api.Pool) { p.Fleet = api.Fleet{} },
		func(p *api.Pool) { p.Fleet.Types, p.Fleet.Wagons = p.Fleet.Types[:1], p.Fleet.Wagons[:1] },
		func(p *api.Pool) { p.Readers = nil },
		func(p *api.Pool) { p.Readers = p.Readers[:2] },
		func(p *api.Pool) { p.Shippers = nil },
		func(p *api.Pool) { p.Shippers = p.Shippers[:2] },
		func(p *api.Pool) { p.Network.Places = p.Network.Places[:8] },
		func(p *api.Pool) { p.Network.Places[4].Kind = api.Yard },
		func(p *api.Pool) { p.Network.Places[5] = api.Place{Kind: api.Yard, Railway: 3, Other: -1} },
		func(p *api.Pool) { *p = api.Pool{Railways: p.Railways} },
	} {
		p := examplePool()
		leaveOut(&p)
		if e := fleet.CheckPool(p); e != api.OK {
			t.Fatalf("pool %d: %v", i, e)
		}
		for _, item := range validItems() {
			checkItem(t, p, item, checkOf(p, item))
			for _, name := range names() {
				for n := -1; n < 10; n++ {
					it := item
					setNumber(&it, name, n)
					checkItem(t, p, it, checkOf(p, it))
				}
			}
		}
	}
}

// P11.1: the largest pool, whose last wagon, place, reader and shipper are valid.
func TestCheckLargePool(t *testing.T) {
	p := examplePool()
	p.Fleet.Wagons = slices.Repeat(p.Fleet.Wagons[:1], 4096)
	p.Fleet.Types = slices.Repeat(p.Fleet.Types[:1], 32)
	p.Readers = slices.Repeat(p.Readers[:1], 256)
	p.Shippers = slices.Repeat(p.Shippers[:1], 256)
	p.Railways = slices.Repeat(p.Railways[:1], 16)
	p.Network.Places = append(p.Network.Places, slices.Repeat(p.Network.Places[:1], 512-places)...)
	p.Network.Places[510] = api.Place{Kind: api.Interchange, Railway: 15, Other: 14}
	p.Network.Places[511] = api.Place{Kind: api.Shop, Railway: 7, Other: -1}
	for _, it := range []api.Item{
		{Kind: api.ItRead, Wagon: 4095, Other: 255},
		{Kind: api.ItDeliver, Wagon: 4095, Place: 510, Other: 15},
		{Kind: api.ItReceive, Wagon: 4095, Place: 510, Other: 14},
		{Kind: api.ItWaybill, Wagon: 4095, Place: 511, Dest: 511, Number: 1, Other: 255},
		{Kind: api.ItRepaired, Wagon: 4095, Place: 511, Code: 2},
		{Kind: api.ItOrder, Place: 511, Number: 31, Other: 255, Weight: 1},
	} {
		checkItem(t, p, it, api.OK)
		for _, field := range []*int{&it.Wagon, &it.Place, &it.Dest, &it.Other} {
			if *field > 0 {
				*field++
				checkItem(t, p, it, checkOf(p, it))
				*field--
			}
		}
	}
}

// P11.1: the error of the pool comes first, whatever the item is.
func TestCheckPoolFirst(t *testing.T) {
	for i, c := range []struct {
		spoil func(p *api.Pool)
		want  api.Errno
	}{
		{func(p *api.Pool) { *p = api.Pool{} }, api.ErrArg},
		{func(p *api.Pool) { p.Network.Places = slices.Repeat(p.Network.Places[:1], 513) }, api.ErrLimit},
		{func(p *api.Pool) { p.Network.Places[3].Other = 0 }, api.ErrArg},
		{func(p *api.Pool) { p.Network.Edges[0].B = places }, api.ErrArg},
		{func(p *api.Pool) { p.Fleet.Wagons = slices.Repeat(p.Fleet.Wagons, 1000) }, api.ErrLimit},
		{func(p *api.Pool) { p.Fleet.Wagons[6].Type = types }, api.ErrArg},
		{func(p *api.Pool) { p.Readers = slices.Repeat(p.Readers, 100) }, api.ErrLimit},
		{func(p *api.Pool) { p.Readers[4].Low = 5 }, api.ErrArg},
		{func(p *api.Pool) { p.Shippers = slices.Repeat(p.Shippers, 100) }, api.ErrLimit},
		{func(p *api.Pool) { p.Shippers[0].Place = 0 }, api.ErrArg},
		{func(p *api.Pool) { p.Railways = slices.Repeat(p.Railways, 5) }, api.ErrLimit},
		{func(p *api.Pool) { p.Railways = p.Railways[:3] }, api.ErrArg},
		{func(p *api.Pool) { p.Railways[1].Key = 1 }, api.ErrArg},
	} {
		p := examplePool()
		c.spoil(&p)
		if e := fleet.CheckPool(p); e != c.want {
			t.Fatalf("case %d: %v, want %v", i, e, c.want)
		}
		for _, it := range append(validItems(), api.Item{}, api.Item{Kind: 16}, api.Item{Kind: api.ItRead, Wagon: -1}, api.Item{Kind: api.ItRepaired, Place: 1000}) {
			checkItem(t, p, it, c.want)
		}
	}
}
