package edi_test

import (
	"math/rand"
	"reflect"
	"slices"
	"strings"

	"wagonpool/api"
	"wagonpool/sign"
)

// samples are around the bounds of all fields, and the least and the greatest integers.
var samples = []int{least, least + 1, -billion, -4096, -10, -3, -2, -1, 0, 1, 2, 3, 4, 5, 6, 7, 8, 9, 10, 11, 12, 13, 15, 16, 17, 62, 63, 64, 65, 100, 255, 256, 999, 1000, 1001, 2000, 4095, 4096, 4097, 999999, 1000000, 1000001, billion - 1, billion, billion + 1, maxTime - 1, maxTime, maxTime + 1, 1 << 32, greatest - 1, greatest}

// The numbers of elements of the example pool are all different.
const (
	railways = 4
	readers  = 5
	shippers = 6
	types    = 3
	wagons   = 7
	places   = 9
)

// key returns the public key of a railway.
func key(railway int) uint64 {
	secret, _ := sign.Secret([]byte{byte(railway)})
	public, _ := sign.Public(secret)
	return public
}

// examplePool returns a valid pool: places 3 and 5 are interchanges, 2 and 6 are sidings, 4 and 8 are shops.
func examplePool() (p api.Pool) {
	p.Network.Places = []api.Place{
		{Kind: api.Station, Railway: 0, Other: -1}, {Kind: api.Yard, Railway: 1, Other: -1}, {Kind: api.Siding, Railway: 2, Other: -1},
		{Kind: api.Interchange, Railway: 0, Other: 1}, {Kind: api.Shop, Railway: 3, Other: -1}, {Kind: api.Interchange, Railway: 3, Other: 1},
		{Kind: api.Siding, Railway: 0, Other: -1}, {Kind: api.Station, Railway: 1, Other: -1}, {Kind: api.Shop, Railway: 0, Other: -1},
	}
	p.Network.Edges = []api.Edge{{A: 0, B: 3, Railway: 0, Minutes: 10, Km: 5}}
	for i := range types {
		p.Fleet.Types = append(p.Fleet.Types, api.WagonType{Load: 1000 * i, Life: 100})
	}
	for i := range wagons {
		p.Fleet.Wagons = append(p.Fleet.Wagons, api.Wagon{Type: i % types, Owner: i, Home: i})
	}
	for i := range readers {
		p.Readers = append(p.Readers, api.Reader{Place: i, Low: -i, High: i})
	}
	for i := range shippers {
		p.Shippers = append(p.Shippers, api.Shipper{Place: 2 + i%2*4})
	}
	for i := range railways {
		p.Railways = append(p.Railways, api.RailwayInfo{Key: key(i)})
	}
	return p
}

// leastItems returns an item of each kind that is valid in the example pool, with the least value of each field, but without a reference wherever one is not necessary.
func leastItems() []api.Item {
	return []api.Item{
		{Kind: api.ItRead},
		{Kind: api.ItStay},
		{Kind: api.ItDeliver, Place: 3},
		{Kind: api.ItReceive, Place: 3},
		{Kind: api.ItWaybill, Number: 1},
		{Kind: api.ItPlaced},
		{Kind: api.ItReleased},
		{Kind: api.ItDamaged, Code: 1},
		{Kind: api.ItRepaired, Place: 4, Code: 1},
		{Kind: api.ItRecall, Parts: []api.Part{{Kind: 1}}},
		{Kind: api.ItTariff, Number: 1, Text: "t"},
		{Kind: api.ItAmend, Number: 1, Text: "t"},
		{Kind: api.ItCancel, Number: 1},
		{Kind: api.ItRetract, Ref: api.Ref{No: 1}},
		{Kind: api.ItOrder, Weight: 1},
	}
}

// parts returns n different valid components; every other one is fitted if some are.
func parts(n int, some bool) (l []api.Part) {
	for i := range n {
		l = append(l, api.Part{Kind: 1 + i%3, Serial: maxTime - 100*i, Fitted: some && i%2 == 0})
	}
	return l
}

// greatestItems returns an item of each kind that is valid in the example pool, with the greatest value of each field.
func greatestItems() []api.Item {
	ref := api.Ref{Railway: 15, No: 4096}
	text := strings.Repeat("tariff\x00\xff+'?\n", 182)[:2000]
	return []api.Item{
		{Kind: api.ItRead, Ref: ref, Wagon: wagons - 1, Other: readers - 1, From: maxTime},
		{Kind: api.ItStay, Ref: ref, Wagon: wagons - 1, Place: places - 1, From: maxTime, To: maxTime},
		{Kind: api.ItDeliver, Ref: ref, Wagon: wagons - 1, Place: 5, Other: 3, From: maxTime, Code: 8},
		{Kind: api.ItReceive, Ref: ref, Wagon: wagons - 1, Place: 5, Other: 3, From: maxTime, Code: 8},
		{Kind: api.ItWaybill, Ref: ref, Number: billion, Wagon: wagons - 1, Other: shippers - 1, Place: places - 1, Dest: places - 1, Class: 63, Weight: 1000000, From: maxTime},
		{Kind: api.ItPlaced, Ref: ref, Wagon: wagons - 1, Place: places - 1, Other: shippers - 1, From: maxTime, Code: 1},
		{Kind: api.ItReleased, Ref: ref, Wagon: wagons - 1, Place: places - 1, Other: shippers - 1, From: maxTime},
		{Kind: api.ItDamaged, Ref: ref, Wagon: wagons - 1, From: maxTime, Code: api.Destroyed},
		{Kind: api.ItRepaired, Ref: ref, Wagon: wagons - 1, Place: 8, From: maxTime, To: maxTime, Code: 2, Amount: billion, Parts: parts(16, true)},
		{Kind: api.ItRecall, Ref: ref, Other: 63, Parts: parts(16, false)},
		{Kind: api.ItTariff, Ref: ref, Number: 6, From: maxTime, Text: text},
		{Kind: api.ItAmend, Ref: ref, Number: 6, From: maxTime, Text: text},
		{Kind: api.ItCancel, Ref: ref, Number: 6, From: maxTime},
		{Kind: api.ItRetract, Ref: ref},
		{Kind: api.ItOrder, Ref: ref, Other: shippers - 1, Place: places - 1, Class: 63, Number: types - 1, Weight: 1000, From: maxTime, To: maxTime, Amount: billion},
	}
}

// middleItems returns an item of each kind that is valid in the example pool; From is 100, and To is 200 where it is used.
func middleItems() []api.Item {
	ref := api.Ref{Railway: 2, No: 7}
	return []api.Item{
		{Kind: api.ItRead, Wagon: 3, Other: 2, From: 100},
		{Kind: api.ItStay, Ref: ref, Wagon: 3, Place: 4, From: 100, To: 200},
		{Kind: api.ItDeliver, Wagon: 3, Place: 5, Other: 1, From: 100, Code: 4},
		{Kind: api.ItReceive, Ref: ref, Wagon: 3, Place: 5, Other: 1, From: 100, Code: 4},
		{Kind: api.ItWaybill, Ref: ref, Number: 8, Wagon: 3, Other: 2, Place: 4, Dest: 6, Class: 11, Weight: 400, From: 100},
		{Kind: api.ItPlaced, Ref: ref, Wagon: 3, Place: 4, Other: 2, From: 100, Code: 1},
		{Kind: api.ItReleased, Wagon: 3, Place: 4, Other: 2, From: 100},
		{Kind: api.ItDamaged, Ref: ref, Wagon: 3, From: 100, Code: 5},
		{Kind: api.ItRepaired, Wagon: 3, Place: 8, From: 100, To: 200, Code: 1, Amount: 300, Parts: parts(3, true)},
		{Kind: api.ItRecall, Ref: ref, Other: 30, Parts: parts(3, false)},
		{Kind: api.ItTariff, Number: 4, From: 100, Text: "tariff t for hire { clause a pay 2 money per minute * minutes; }"},
		{Kind: api.ItAmend, Ref: ref, Number: 4, From: 100, Text: "'a+b?c\n"},
		{Kind: api.ItCancel, Number: 4, From: 100},
		{Kind: api.ItRetract, Ref: ref},
		{Kind: api.ItOrder, Other: 2, Place: 4, Class: 11, Number: 1, Weight: 50, From: 100, To: 200, Amount: 300},
	}
}

// validItems returns items of all kinds that are valid in the example pool.
func validItems() []api.Item {
	return slices.Concat(leastItems(), middleItems(), greatestItems())
}

// integers returns pointers to all ints within an item, by reflection.
func integers(it *api.Item) (l []*int) {
	var visit func(v reflect.Value)
	visit = func(v reflect.Value) {
		switch v.Kind() {
		case reflect.Int:
			l = append(l, v.Addr().Interface().(*int))
		case reflect.Struct:
			for i := range v.NumField() {
				visit(v.Field(i))
			}
		case reflect.Slice:
			for i := range v.Len() {
				visit(v.Index(i))
			}
		}
	}
	visit(reflect.ValueOf(it).Elem())
	return l
}

// setNumber sets the number of an item that has this name.
func setNumber(it *api.Item, name string, n int) {
	reflect.ValueOf(it).Elem().FieldByName(name).SetInt(int64(n))
}

// names returns the names of the fields of items that contain a number, but not Kind.
func names() (l []string) {
	for f := range reflect.TypeFor[api.Item]().Fields() {
		if f.Type.Kind() == reflect.Int && f.Name != "Kind" {
			l = append(l, f.Name)
		}
	}
	return l
}

// texts returns texts of all kinds.
func texts() (l []string) {
	for c := range 256 {
		l = append(l, string([]byte{byte(c)}))
	}
	l = append(l, "a+b\n", "'", "''+x", "?", "??", "?41", "+w1", "x", " ", "é", "\xc3", "日本", "\x00\x00", "a'b", "r1.2", strings.Repeat("~", 2000), strings.Repeat("\xff", 2001))
	all := make([]byte, 256)
	for c := range all {
		all[c] = byte(c)
	}
	return append(l, string(all))
}

// anyItems returns items whose kind has a tag, valid or not.
func anyItems() (l []api.Item) {
	l = validItems()
	for kind := 1; kind <= 15; kind++ {
		l = append(l, api.Item{Kind: kind})
		for _, name := range names() {
			for _, n := range []int{1, -1, 10, -10, greatest, least} {
				it := api.Item{Kind: kind}
				setNumber(&it, name, n)
				l = append(l, it)
			}
		}
		for _, ref := range []api.Ref{{Railway: 1}, {No: 1}, {Railway: -1, No: -1}, {Railway: least, No: greatest}, {Railway: 2, No: 7}, {Railway: 27}} {
			l = append(l, api.Item{Kind: kind, Ref: ref})
		}
	}
	for i, text := range texts() {
		l = append(l, api.Item{Kind: 1 + i%15, Text: text})
	}
	for i, list := range [][]api.Part{{{}}, {{Fitted: true}}, {{}, {}}, {{Kind: 1}}, {{Serial: 1}}, {{Kind: -1, Serial: -2, Fitted: true}}, {{Kind: 1, Serial: 2}, {Kind: 3, Serial: 4}}, {{Kind: 3, Serial: 4}, {Kind: 1, Serial: 2}}, {{Kind: least, Serial: greatest}, {Kind: greatest, Serial: least, Fitted: true}}, {{Kind: 12}}, {{Kind: 1, Serial: 20}}, parts(17, true), parts(100, false)} {
		l = append(l, api.Item{Kind: 1 + i%15, Parts: list}, api.Item{Kind: 15, Ref: api.Ref{No: 3}, Amount: 5, Text: "a+b", Parts: list})
	}
	return append(l, randomItems(3, 300)...)
}

// randomItems returns items with any fields; about half of them are zero.
func randomItems(seed int64, count int) (l []api.Item) {
	r, list := rand.New(rand.NewSource(seed)), texts()
	number := func() int {
		if r.Intn(2) == 0 {
			return 0
		}
		return int(r.Uint64()) >> r.Intn(64)
	}
	for range count {
		it := api.Item{Kind: 1 + r.Intn(15)}
		if r.Intn(2) == 0 {
			it.Text = list[r.Intn(len(list))]
		}
		for range r.Intn(4) {
			it.Parts = append(it.Parts, api.Part{Fitted: r.Intn(2) == 0})
		}
		for _, field := range integers(&it)[1:] {
			*field = number()
		}
		l = append(l, it)
	}
	return l
}
