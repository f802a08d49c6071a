package edi_test

import (
	"reflect"
	"slices"
	"testing"

	"wagonpool/api"
	"wagonpool/codec"
	"wagonpool/edi"
)

func integer(n int) api.Value { return api.Value{Kind: api.IntV, N: n} }

func text(s string) api.Value { return api.Value{Kind: api.BytesV, B: []byte(s)} }

func list(l ...api.Value) api.Value { return api.Value{Kind: api.ListV, L: l} }

// P11.1: a value that is spelled out, for an item of each kind and for others.
func TestValueSpelledOut(t *testing.T) {
	for _, kind := range samples {
		it := api.Item{
			Kind: kind, Ref: api.Ref{Railway: 14, No: -13}, Wagon: 1, Place: 2, Other: 3, Number: 4, From: 5, To: 6, Code: 7, Dest: 8, Class: 9, Weight: 10, Amount: 11,
			Text: "a\x00+", Parts: []api.Part{{Kind: 15, Serial: 16}, {Kind: -17, Serial: 18, Fitted: true}},
		}
		want := list(integer(kind), list(integer(14), integer(-13)), integer(1), integer(2), integer(3), integer(4), integer(5), integer(6), integer(7), integer(8), integer(9), integer(10), integer(11),
			text("a\x00+"), list(list(integer(15), integer(16), integer(0)), list(integer(-17), integer(18), integer(1))))
		if v := edi.Value(it); !sameValue(v, want) {
			t.Fatalf("Value of %s: %v", shown(it), v)
		}
		checkFromValue(t, want, it, api.OK)
		checkValue(t, it)
	}
	zero := integer(0)
	empty := list(zero, list(zero, zero), zero, zero, zero, zero, zero, zero, zero, zero, zero, zero, zero, text(""), list())
	if v := edi.Value(api.Item{}); !sameValue(v, empty) {
		t.Fatalf("Value of the zero item: %v", v)
	}
	checkFromValue(t, empty, api.Item{}, api.OK)
}

// P11.1: each number alone, with each sample.
func TestValueNumbers(t *testing.T) {
	for kind := -1; kind <= 16; kind++ {
		for i := range integers(&api.Item{}) {
			for _, n := range samples {
				it := api.Item{Kind: kind}
				*integers(&it)[i] = n
				checkValue(t, it)
			}
		}
	}
}

// P11.1: items of all kinds, texts and components, also more than an encoding can have.
func TestValueItems(t *testing.T) {
	for _, it := range append(anyItems(), randomItems(31, 2000)...) {
		checkValue(t, it)
		it.Kind = -it.Kind
		checkValue(t, it)
	}
	for _, it := range longItems(maxValue + 1) {
		checkValue(t, it)
	}
	checkValue(t, api.Item{Text: string(make([]byte, 1<<20)), Parts: parts(1<<16, true)})
}

// foreign returns values of many shapes, and what v becomes with another kind or with fields that its kind does not use.
func foreign(v api.Value) (l []api.Value) {
	zero := integer(0)
	l = []api.Value{
		{}, {Kind: 4}, {Kind: -1}, {Kind: greatest}, zero, integer(1), integer(2), integer(-1), integer(greatest), integer(least),
		text(""), text("a"), text("\x00\x01"), list(), list(zero), list(zero, zero), list(zero, zero, zero), list(zero, zero, zero, zero), list(text("")), list(list()),
		list(list(zero, zero, zero)), list(list(zero, zero, integer(1)), list(zero, zero, zero)),
	}
	for kind := 0; kind <= 4; kind++ {
		x := v
		x.Kind = kind
		l = append(l, x)
	}
	x, y, z := v, v, v
	x.N++
	y.B = append(slices.Clone(v.B), 0)
	z.L = append(slices.Clone(v.L), zero)
	return append(l, x, y, z)
}

// variants returns values that differ from v in one place: with another value there, or with one element more or less.
func variants(v api.Value) (l []api.Value) {
	l = foreign(v)
	with := func(elements []api.Value) {
		x := v
		x.L = elements
		l = append(l, x)
	}
	for i := range v.L {
		with(slices.Delete(slices.Clone(v.L), i, i+1))
		with(slices.Insert(slices.Clone(v.L), i, v.L[i]))
		for _, x := range variants(v.L[i]) {
			elements := slices.Clone(v.L)
			elements[i] = x
			with(elements)
		}
	}
	return l
}

// P11.3: FromValue accepts nothing but values of items.
func TestFromValueShapes(t *testing.T) {
	items := append(leastItems(), middleItems()...)
	items = append(items, api.Item{}, api.Item{Kind: 16, Text: "a", Parts: parts(2, true)})
	for _, it := range append(items, randomItems(32, 20)...) {
		accepted := 0
		for _, v := range variants(edi.Value(it)) {
			want, e := fromValueOf(v)
			checkFromValue(t, v, want, e)
			if e == api.OK {
				accepted++
				if w := edi.Value(want); !sameValue(w, v) {
					t.Fatalf("FromValue accepts %v as %s, whose value is %v", v, shown(want), w)
				}
			}
		}
		if accepted < 50 {
			t.Fatalf("only %d variants of %s are values", accepted, shown(it))
		}
	}
}

// P11.1: shapes that are spelled out.
func TestFromValueRefused(t *testing.T) {
	checkFromValue(t, integer(1), api.Item{}, api.ErrShape)
	for _, v := range foreign(api.Value{}) {
		checkFromValue(t, v, api.Item{}, api.ErrShape)
	}
	for n := range 30 {
		if n != 15 {
			checkFromValue(t, list(slices.Repeat([]api.Value{integer(0)}, n)...), api.Item{}, api.ErrShape)
		}
	}
	it := api.Item{Kind: 9, Wagon: 5, Text: "a", Parts: parts(3, true)}
	check := func(want api.Errno, change func(l []api.Value) []api.Value) {
		t.Helper()
		v := edi.Value(it)
		v.L = change(v.L)
		result := it
		if want != api.OK {
			result = api.Item{}
		}
		checkFromValue(t, v, result, want)
	}
	// set returns a change that sets one element.
	set := func(i int, v api.Value) func(l []api.Value) []api.Value {
		return func(l []api.Value) []api.Value { l[i] = v; return l }
	}
	check(api.OK, func(l []api.Value) []api.Value { return l })
	check(api.ErrShape, func(l []api.Value) []api.Value { return l[:14] })
	check(api.ErrShape, func(l []api.Value) []api.Value { return l[1:] })
	check(api.ErrShape, func(l []api.Value) []api.Value { return append(l, integer(0)) })
	check(api.ErrShape, func(l []api.Value) []api.Value { return append(l, list()) })
	for i := range 15 {
		check(api.ErrShape, func(l []api.Value) []api.Value { return slices.Delete(l, i, i+1) })
		check(api.ErrShape, set(i, api.Value{}))
		if i != 1 && i < 13 {
			check(api.ErrShape, set(i, text("")))
			check(api.ErrShape, set(i, list()))
			check(api.ErrShape, set(i, list(integer(5))))
			check(api.ErrShape, set(i, api.Value{Kind: api.IntV, B: []byte{1}}))
			check(api.ErrShape, set(i, api.Value{Kind: api.IntV, L: []api.Value{integer(0)}}))
		}
	}
	for _, ref := range []api.Value{integer(0), text(""), text("ab"), list(), list(integer(0)), list(integer(0), integer(0), integer(0)), list(text(""), integer(0)), list(integer(0), text("")), list(integer(0), list()), {Kind: api.ListV, N: 1, L: []api.Value{integer(0), integer(0)}}, {Kind: api.ListV, B: []byte{0}, L: []api.Value{integer(0), integer(0)}}} {
		check(api.ErrShape, set(1, ref))
	}
	for _, x := range []api.Value{integer(0), integer(97), list(), list(integer(97)), {Kind: api.BytesV, N: 1, B: []byte("a")}, {Kind: api.BytesV, B: []byte("a"), L: []api.Value{{}}}} {
		check(api.ErrShape, set(13, x))
	}
	for _, l := range []api.Value{integer(0), text(""), list(integer(0)), list(text("")), list(list()), list(integer(1), integer(2), integer(0)), {Kind: api.ListV, N: 1}, {Kind: api.ListV, B: []byte{0}}} {
		check(api.ErrShape, set(14, l))
	}
	fitted := list(integer(1), integer(maxTime), integer(1))
	last := list(integer(3), integer(maxTime-200), integer(1))
	check(api.OK, set(14, list(fitted, list(integer(2), integer(maxTime-100), integer(0)), last)))
	for _, n := range []int{2, 3, -1, 256, greatest, least} {
		for _, i := range []int{0, 1, 2} {
			l := []api.Value{fitted, fitted, fitted}
			l[i] = list(integer(1), integer(5), integer(n))
			check(api.ErrShape, set(14, list(l...)))
		}
	}
	for _, x := range []api.Value{text("\x01"), text(""), list(), list(integer(1)), {Kind: api.IntV, N: 1, B: []byte{0}}} {
		check(api.ErrShape, set(14, list(fitted, list(integer(1), integer(5), x))))
		check(api.ErrShape, set(14, list(list(integer(1), x, integer(0)))))
		check(api.ErrShape, set(14, list(list(x, integer(5), integer(0)))))
	}
	check(api.ErrShape, set(14, list(list(integer(1), integer(5)))))
	check(api.ErrShape, set(14, list(list(integer(1), integer(5), integer(1), integer(0)))))
}

// P11.1: values that are nested deeply, or are very long, are no items.
func TestFromValueExtremes(t *testing.T) {
	deep := integer(1)
	for range 1 << 16 {
		deep = list(deep)
	}
	checkFromValue(t, deep, api.Item{}, api.ErrShape)
	checkFromValue(t, list(make([]api.Value, 1<<20)...), api.Item{}, api.ErrShape)
	for i := range 15 {
		v := edi.Value(middleItems()[8])
		v.L[i] = deep
		checkFromValue(t, v, api.Item{}, api.ErrShape)
	}
}

// P11.3: FromValue returns the item of a value, through the encoding of the value too, and different items have different encodings.
func TestEncodingsDiffer(t *testing.T) {
	known := map[string]api.Item{}
	for _, it := range append(anyItems(), randomItems(33, 3000)...) {
		v := edi.Value(it)
		checkFromValue(t, v, it, api.OK)
		b, e := codec.Encode(v)
		if e != api.OK {
			t.Fatalf("%s: %v", shown(it), e)
		}
		decoded, e := codec.Decode(b)
		if e != api.OK {
			t.Fatalf("%s: %v", shown(it), e)
		}
		checkFromValue(t, decoded, it, api.OK)
		if other, ok := known[string(b)]; ok && !same(other, it) {
			t.Fatalf("%s and %s have the same encoding", shown(it), shown(other))
		}
		known[string(b)] = it
	}
}

// P11.3: the list of a value has the fields in the order in which api declares them.
func TestValueOrder(t *testing.T) {
	fields := reflect.TypeFor[api.Item]()
	for i := range fields.NumField() {
		it := api.Item{}
		switch f := reflect.ValueOf(&it).Elem().Field(i); f.Kind() {
		case reflect.Int:
			f.SetInt(7)
		case reflect.String:
			f.SetString("7")
		case reflect.Slice:
			f.Set(reflect.MakeSlice(f.Type(), 1, 1))
		case reflect.Struct:
			f.Field(0).SetInt(7)
		}
		v, zero := edi.Value(it), edi.Value(api.Item{})
		for j := range fields.NumField() {
			if sameValue(v.L[j], zero.L[j]) != (i != j) {
				t.Errorf("%s is not the element %d of %v", fields.Field(i).Name, i, v)
			}
		}
	}
}
