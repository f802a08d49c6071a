package edi_test

import (
	"reflect"
	"slices"
	"strings"
	"testing"

	"wagonpool/api"
	"wagonpool/edi"
)

// behind returns an item equal to it, whose components are the beginning of a longer list, and this list.
func behind(it api.Item) (api.Item, []api.Part) {
	memory := slices.Concat(it.Parts, parts(3, true))
	it.Parts = memory[:len(it.Parts)]
	return it, memory
}

// visit calls f with v and all values in it, and with the places behind its lists.
func visit(v *api.Value, f func(v *api.Value)) {
	f(v)
	for i := range v.L[:cap(v.L)] {
		visit(&v.L[:cap(v.L)][i], f)
	}
}

// deep returns a value equal to v that shares no memory with it, and has some memory behind each of its slices.
func deep(v api.Value) api.Value {
	x := api.Value{Kind: v.Kind, N: v.N, B: append(make([]byte, 0, len(v.B)+3), v.B...), L: make([]api.Value, 0, len(v.L)+2)}
	for _, element := range v.L {
		x.L = append(x.L, deep(element))
	}
	return x
}

// spoil overwrites a value and all its memory.
func spoil(v *api.Value) {
	visit(v, func(x *api.Value) {
		x.Kind, x.N = api.BytesV, 99
		for i := range x.B[:cap(x.B)] {
			x.B[:cap(x.B)][i] = 0xa5
		}
	})
}

// R2: no function writes to its arguments or behind them, not even through its results.
func TestArgumentsUnchanged(t *testing.T) {
	p, want := examplePool(), examplePool()
	for _, it := range append(anyItems(), api.Item{Parts: parts(2, true)}, api.Item{Kind: 16}) {
		argument, memory := behind(it)
		wanted := slices.Clone(memory)
		edi.Check(p, argument)
		edi.Format(argument)
		v := edi.Value(argument)
		value := deep(v)
		spoil(&v)
		if !same(argument, it) || !slices.Equal(memory, wanted) {
			t.Fatalf("%s: its memory is now %v", shown(it), memory)
		}
		before := deep(value)
		result, _ := edi.FromValue(value)
		for i := range result.Parts[:cap(result.Parts)] {
			result.Parts[:cap(result.Parts)][i] = api.Part{Kind: 99}
		}
		visit(&value, func(x *api.Value) { x.B = x.B[:cap(x.B)] })
		visit(&before, func(x *api.Value) { x.B = x.B[:cap(x.B)] })
		if !reflect.DeepEqual(value, before) {
			t.Fatalf("the value of %s is now %v", shown(it), value)
		}
	}
	if !reflect.DeepEqual(p, want) {
		t.Fatalf("the pool is now %v", p)
	}
}

// R2: results stay as they are when the arguments or the results of other calls change.
func TestResultsUnchanged(t *testing.T) {
	for _, it := range anyItems() {
		argument, memory := behind(it)
		v, other := edi.Value(argument), edi.Value(argument)
		want := deep(v)
		clear(memory)
		spoil(&other)
		if !sameValue(v, want) {
			t.Fatalf("the value of %s is now %v", shown(it), v)
		}
		x, _ := edi.FromValue(v)
		y, _ := edi.FromValue(v)
		clear(y.Parts)
		spoil(&v)
		if !same(x, it) {
			t.Fatalf("%s is now %s", shown(it), shown(x))
		}
		s, _ := edi.Format(it)
		x, _ = edi.Parse(s)
		y, _ = edi.Parse(s)
		clear(y.Parts)
		if !same(x, it) {
			t.Fatalf("%s is now %s", shown(it), shown(x))
		}
	}
}

// LANGUAGE.md 7: no two parts of one result share memory.
func TestPartsApart(t *testing.T) {
	for _, it := range []api.Item{{}, {Kind: 1}, {Kind: 9, Ref: api.Ref{No: 2}, Text: "text", Parts: parts(3, true)}, {Text: strings.Repeat("a", 100), Parts: parts(40, true)}} {
		v := edi.Value(it)
		want := deep(v)
		// Room behind one list must not be within another one.
		visit(&v, func(x *api.Value) {
			for i := range x.L[len(x.L):cap(x.L)] {
				x.L[len(x.L):cap(x.L)][i] = integer(99)
			}
			for i := range x.B[len(x.B):cap(x.B)] {
				x.B[len(x.B):cap(x.B)][i] = 99
			}
		})
		if !sameValue(v, want) {
			t.Fatalf("the value of %s is now %v", shown(it), v)
		}
		for i := range v.L {
			v, want := edi.Value(it), deep(want)
			spoil(&v.L[i])
			v.L[i], want.L[i] = api.Value{}, api.Value{}
			if !sameValue(v, want) {
				t.Fatalf("without the element %d, the value of %s is now %v", i, shown(it), v)
			}
		}
	}
}

// R3: nil and no elements are the same.
func TestNil(t *testing.T) {
	p := examplePool()
	for _, it := range anyItems() {
		if len(it.Parts) > 0 {
			continue
		}
		want, message, value := checkOf(p, it), messageOf(it), edi.Value(it)
		for _, none := range [][]api.Part{nil, {}, make([]api.Part, 0, 5)} {
			it.Parts = none
			checkItem(t, p, it, want)
			checkMessage(t, it, message)
			if v := edi.Value(it); !sameValue(v, value) {
				t.Fatalf("%v instead of %v", v, value)
			}
		}
		visit(&value, func(x *api.Value) {
			if len(x.B) == 0 {
				x.B = []byte{}
			}
			if len(x.L) == 0 {
				x.L = []api.Value{}
			}
		})
		checkFromValue(t, value, it, api.OK)
		visit(&value, func(x *api.Value) {
			if len(x.B) == 0 {
				x.B = nil
			}
			if len(x.L) == 0 {
				x.L = nil
			}
		})
		checkFromValue(t, value, it, api.OK)
	}
}

// results are what all functions return for an item.
type results struct {
	check, format, parse, from api.Errno
	message                    string
	parsed, returned           api.Item
	value                      api.Value
}

func call(p api.Pool, it api.Item) (r results) {
	r.check = edi.Check(p, it)
	r.message, r.format = edi.Format(it)
	r.parsed, r.parse = edi.Parse(messageOf(it))
	r.value = edi.Value(it)
	r.returned, r.from = edi.FromValue(r.value)
	return r
}

// R6: equal calls return equal results, whatever was called in between.
func TestEqualCalls(t *testing.T) {
	items := append(anyItems(), longItems(maxValue)...)
	for i, it := range items {
		first := call(examplePool(), it)
		call(api.Pool{}, items[(i+1)%len(items)])
		copied := it
		copied.Parts = slices.Clone(it.Parts)
		copied.Text = strings.Clone(it.Text)
		for range 2 {
			if again := call(examplePool(), copied); !reflect.DeepEqual(again, first) {
				t.Fatalf("%s: %v, and before %v", shown(it), again, first)
			}
		}
	}
}

// R1: together with an error, every other result is its zero value.
func TestZeroWithErrors(t *testing.T) {
	for _, it := range append(longItems(maxValue+1), api.Item{}, api.Item{Kind: 16, Text: "a"}, api.Item{Kind: -1, Parts: parts(3, true)}) {
		if s, e := edi.Format(it); e == api.OK || s != "" {
			t.Fatalf("Format of %s: %q, %v", shown(it), begin(s), e)
		}
	}
	// What is wrong comes after fields that could be read.
	for _, s := range []string{"READ+w1", "READ+w1+'", "READ+w1+f0'", "READ+r1.2+w1+x?41'", "READ+r1.2+xa+q1.2.1+q1.2.2'", "READ+q1.2.1+q1.2'", "READ+w1+w1'", "X+w1'", "READ+w1+xa?0'", "READ+w1+f9223372036854775808'", strings.Repeat("READ+w1'", 10000)} {
		if it, e := edi.Parse(s); e == api.OK || !reflect.DeepEqual(it, api.Item{}) {
			t.Fatalf("Parse of %q: %s, %v", begin(s), shown(it), e)
		}
	}
	full := edi.Value(api.Item{Kind: 9, Ref: api.Ref{No: 2}, Wagon: 3, Text: "text", Parts: parts(3, true)})
	for _, v := range variants(full) {
		if it, e := edi.FromValue(v); e != api.OK && !reflect.DeepEqual(it, api.Item{}) {
			t.Fatalf("FromValue of %v: %s, %v", v, shown(it), e)
		}
	}
}
