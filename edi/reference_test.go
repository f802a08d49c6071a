package edi_test

import (
	"fmt"
	"math"
	"reflect"
	"regexp"
	"strconv"
	"strings"
	"testing"

	"wagonpool/api"
	"wagonpool/edi"
	"wagonpool/fleet"
)

// This file spells the chapter out a second time: items as rows of its first table, messages as a regular expression, and values by reflection.

const (
	maxTime  = 1 << 30
	maxValue = 65536
	billion  = 1000 * 1000 * 1000
	least    = math.MinInt
	greatest = math.MaxInt
)

// rows contains the first table of the chapter, from kind 1 on: tags, and what the fields that are used must be.
var rows = [...]struct{ tag, fields string }{
	{"READ", "Wagon Other:reader From"},
	{"STAY", "Wagon Place From To"},
	{"DELIVER", "Wagon Place:interchange Other:side From Code:0-8"},
	{"RECEIVE", "Wagon Place:interchange Other:side From Code:0-8"},
	{"WAYBILL", "Number:1-1000000000 Wagon Other:shipper Place Dest Class Weight:0-1000000 From"},
	{"PLACED", "Wagon Place Other:shipper From Code:0-1"},
	{"RELEASED", "Wagon Place Other:shipper From"},
	{"DAMAGED", "Wagon From Code:1-9"},
	{"REPAIRED", "Wagon Place:shop From To Code:1-2 Amount:0-1000000000 Parts:0-16"},
	{"RECALL", "Other:0-63 Parts:1-16:removed"},
	{"TARIFF", "Number:1-6 From Text"},
	{"AMEND", "Number:1-6 From Text"},
	{"CANCEL", "Number:1-6 From"},
	{"RETRACT", ""},
	{"ORDER", "Other:shipper Place Class Number:type Weight:1-1000 From To Amount:0-1000000000"},
}

// condition returns whether the field of an item is what a word of the table asks for.
func condition(p api.Pool, it api.Item, word string) bool {
	name, what, _ := strings.Cut(word, ":")
	atPlace := func() api.Place {
		if it.Place < 0 || it.Place >= len(p.Network.Places) {
			return api.Place{}
		}
		return p.Network.Places[it.Place]
	}
	n := 0
	if f := reflect.ValueOf(it).FieldByName(name); f.CanInt() {
		n = int(f.Int())
	}
	index := func(count int) bool { return n >= 0 && n < count }
	switch word {
	case "Wagon":
		return index(len(p.Fleet.Wagons))
	case "Place", "Dest":
		return index(len(p.Network.Places))
	case "Place:interchange":
		return atPlace().Kind == 3
	case "Place:shop":
		return atPlace().Kind == 5
	case "Other:side":
		return n == atPlace().Railway || n == atPlace().Other
	case "Other:reader":
		return index(len(p.Readers))
	case "Other:shipper":
		return index(len(p.Shippers))
	case "Number:type":
		return index(len(p.Fleet.Types))
	case "Class":
		return index(64)
	case "From":
		return index(maxTime + 1)
	case "To":
		return index(maxTime+1) && it.To >= it.From
	case "Text":
		return len(it.Text) > 0 && len(it.Text) < 2001
	}
	if name == "Parts" {
		n = len(it.Parts)
		for _, c := range it.Parts {
			if c.Kind != 1 && c.Kind != 2 && c.Kind != 3 || c.Serial < 0 || c.Serial > 1<<30 || c.Fitted && strings.HasSuffix(what, "removed") {
				return false
			}
		}
	}
	var from, to int
	if _, err := fmt.Sscanf(what, "%d-%d", &from, &to); err != nil {
		panic(word)
	}
	return n >= from && n <= to
}

// isItem spells out which items are valid in a valid pool.
func isItem(p api.Pool, it api.Item) bool {
	if it.Kind < 1 || it.Kind > 15 {
		return false
	}
	ref := it.Ref
	if ref == (api.Ref{}) && it.Kind == 14 || ref != (api.Ref{}) && (ref.Railway < 0 || ref.Railway > 15 || ref.No < 1 || ref.No > 4096) {
		return false
	}
	rest := it
	rest.Kind, rest.Ref = 0, api.Ref{}
	for _, word := range strings.Fields(rows[it.Kind-1].fields) {
		if !condition(p, it, word) {
			return false
		}
		name, _, _ := strings.Cut(word, ":")
		reflect.ValueOf(&rest).Elem().FieldByName(name).SetZero()
	}
	return same(rest, api.Item{})
}

// checkOf spells Check out.
func checkOf(p api.Pool, it api.Item) api.Errno {
	if e := fleet.CheckPool(p); e != api.OK {
		return e
	}
	if !isItem(p, it) {
		return api.ErrItem
	}
	return api.OK
}

// plain contains the bytes that a text in a message contains as they are.
const plain = " !\"#$%&()*,-./0123456789:;<=>@ABCDEFGHIJKLMNOPQRSTUVWXYZ[\\]^_`abcdefghijklmnopqrstuvwxyz{|}~"

// messageOf returns the message of an item whose kind has a tag.
func messageOf(it api.Item) string {
	var b strings.Builder
	b.WriteString(rows[it.Kind-1].tag)
	if it.Ref.Railway != 0 || it.Ref.No != 0 {
		fmt.Fprintf(&b, "+r%d.%d", it.Ref.Railway, it.Ref.No)
	}
	for _, f := range []struct {
		letter string
		number int
	}{
		{"w", it.Wagon}, {"p", it.Place}, {"o", it.Other}, {"n", it.Number}, {"f", it.From}, {"t", it.To},
		{"c", it.Code}, {"d", it.Dest}, {"k", it.Class}, {"g", it.Weight}, {"a", it.Amount},
	} {
		if f.number != 0 {
			fmt.Fprintf(&b, "+%s%d", f.letter, f.number)
		}
	}
	if len(it.Text) > 0 {
		b.WriteString("+x")
	}
	for i := range len(it.Text) {
		if strings.IndexByte(plain, it.Text[i]) >= 0 {
			b.WriteByte(it.Text[i])
		} else {
			fmt.Fprintf(&b, "?%02x", it.Text[i])
		}
	}
	for _, c := range it.Parts {
		fmt.Fprintf(&b, "+q%d.%d.%d", c.Kind, c.Serial, map[bool]int{true: 1}[c.Fitted])
	}
	return b.String() + "'"
}

// form returns the regular expression of all messages, but for the range of integers.
func form() *regexp.Regexp {
	const number = `(?:0|-?[1-9][0-9]*)`
	const other = `(?:-?[1-9][0-9]*)`
	tags := []string{}
	for _, r := range rows {
		tags = append(tags, r.tag)
	}
	s := `(` + strings.Join(tags, "|") + `)`
	s += `(?:\+r(` + number + `\.` + other + `|` + other + `\.0))?`
	for _, letter := range "wponftcdkga" {
		s += `(?:\+` + string(letter) + `(` + other + `))?`
	}
	s += `(?:\+x((?:[ -&(-*,->@-~]|\?(?:[01][0-9a-f]|2[7b]|3f|7f|[89a-f][0-9a-f]))+))?`
	s += `((?:\+q` + number + `\.` + number + `\.[01])*)`
	return regexp.MustCompile(`\A` + s + `'\z`)
}

var forms = form()

// parseOf spells Parse out.
func parseOf(s string) (it api.Item, e api.Errno) {
	if len(s) > maxValue {
		return it, api.ErrLimit
	}
	m := forms.FindStringSubmatch(s)
	if m == nil {
		return it, api.ErrForm
	}
	fits := true
	number := func(s string) int {
		n, err := strconv.ParseInt("0"+s, 10, 64)
		if strings.HasPrefix(s, "-") {
			n, err = strconv.ParseInt(s, 10, 64)
		}
		fits = fits && err == nil
		return int(n)
	}
	for i, r := range rows {
		if r.tag == m[1] {
			it.Kind = i + 1
		}
	}
	if railway, no, found := strings.Cut(m[2], "."); found {
		it.Ref = api.Ref{Railway: number(railway), No: number(no)}
	}
	it.Wagon, it.Place, it.Other, it.Number = number(m[3]), number(m[4]), number(m[5]), number(m[6])
	it.From, it.To, it.Code, it.Dest = number(m[7]), number(m[8]), number(m[9]), number(m[10])
	it.Class, it.Weight, it.Amount = number(m[11]), number(m[12]), number(m[13])
	before, after, found := strings.Cut(m[14], "?")
	for it.Text = before; found; it.Text += before {
		code, _ := strconv.ParseUint(after[:2], 16, 8)
		it.Text += string([]byte{byte(code)})
		before, after, found = strings.Cut(after[2:], "?")
	}
	for _, part := range strings.Split(m[15], "+q")[1:] {
		l := strings.Split(part, ".")
		it.Parts = append(it.Parts, api.Part{Kind: number(l[0]), Serial: number(l[1]), Fitted: l[2] == "1"})
	}
	if !fits {
		return api.Item{}, api.ErrForm
	}
	return it, api.OK
}

// valueOf returns the value of anything that consists of numbers, strings and flags.
func valueOf(x reflect.Value) (v api.Value) {
	switch x.Kind() {
	case reflect.Int:
		return api.Value{Kind: api.IntV, N: int(x.Int())}
	case reflect.Bool:
		return api.Value{Kind: api.IntV, N: map[bool]int{true: 1}[x.Bool()]}
	case reflect.String:
		return api.Value{Kind: api.BytesV, B: []byte(x.String())}
	case reflect.Struct:
		v.Kind = api.ListV
		for i := range x.NumField() {
			v.L = append(v.L, valueOf(x.Field(i)))
		}
		return v
	case reflect.Slice:
		v.Kind = api.ListV
		for i := range x.Len() {
			v.L = append(v.L, valueOf(x.Index(i)))
		}
		return v
	}
	panic(x.Kind())
}

// fill stores what v stands for in x, and tells whether it stands for anything.
func fill(x reflect.Value, v api.Value) bool {
	if wellFormed := []bool{false, len(v.B)+len(v.L) == 0, v.N == 0 && len(v.L) == 0, v.N == 0 && len(v.B) == 0}; v.Kind < 1 || v.Kind > 3 || !wellFormed[v.Kind] {
		return false
	}
	switch x.Kind() {
	case reflect.Int:
		x.SetInt(int64(v.N))
		return v.Kind == api.IntV
	case reflect.Bool:
		x.SetBool(v.N == 1)
		return v.Kind == api.IntV && (v.N == 0 || v.N == 1)
	case reflect.String:
		x.SetString(string(v.B))
		return v.Kind == api.BytesV
	case reflect.Slice:
		x.Set(reflect.MakeSlice(x.Type(), len(v.L), len(v.L)))
		for i := range v.L {
			if !fill(x.Index(i), v.L[i]) {
				return false
			}
		}
		return v.Kind == api.ListV
	}
	if v.Kind != api.ListV || len(v.L) != x.NumField() {
		return false
	}
	for i := range v.L {
		if !fill(x.Field(i), v.L[i]) {
			return false
		}
	}
	return true
}

// fromValueOf spells FromValue out.
func fromValueOf(v api.Value) (it api.Item, e api.Errno) {
	if !fill(reflect.ValueOf(&it).Elem(), v) {
		return api.Item{}, api.ErrShape
	}
	return it, api.OK
}

// same tells whether two items are equal; no components and nil are.
func same(a, b api.Item) bool {
	if len(a.Parts)+len(b.Parts) == 0 {
		a.Parts, b.Parts = nil, nil
	}
	return reflect.DeepEqual(a, b)
}

// shown returns an item as text of readable length.
func shown(it api.Item) string {
	s := fmt.Sprintf("%+v", it)
	return begin(s)
}

func begin(s string) string {
	if len(s) <= 400 {
		return s
	}
	return fmt.Sprintf("%s .. (%d bytes)", s[:400], len(s))
}

func checkItem(t *testing.T, p api.Pool, it api.Item, want api.Errno) {
	t.Helper()
	if e := edi.Check(p, it); e != want {
		t.Fatalf("Check of %s: %v, want %v", shown(it), e, want)
	}
}

func checkFormat(t *testing.T, it api.Item, want string, errno api.Errno) {
	t.Helper()
	if s, e := edi.Format(it); s != want || e != errno {
		t.Fatalf("Format of %s: %q, %v, want %q, %v", shown(it), begin(s), e, begin(want), errno)
	}
}

func checkParse(t *testing.T, s string, want api.Item, errno api.Errno) {
	t.Helper()
	if it, e := edi.Parse(s); !same(it, want) || e != errno {
		t.Fatalf("Parse of %q: %s, %v, want %s, %v", begin(s), shown(it), e, shown(want), errno)
	}
}

// checkMessage compares Format and Parse with the message of an item.
func checkMessage(t *testing.T, it api.Item, s string) {
	t.Helper()
	checkFormat(t, it, s, api.OK)
	checkParse(t, s, it, api.OK)
}

// checkParsed compares Parse with the second spelling.
func checkParsed(t *testing.T, s string) {
	t.Helper()
	want, e := parseOf(s)
	checkParse(t, s, want, e)
}

func checkFromValue(t *testing.T, v api.Value, want api.Item, errno api.Errno) {
	t.Helper()
	if it, e := edi.FromValue(v); !same(it, want) || e != errno {
		t.Fatalf("FromValue of %s: %s, %v, want %s, %v", begin(fmt.Sprint(v)), shown(it), e, shown(want), errno)
	}
}

// checkValue compares Value and FromValue with the second spelling.
func checkValue(t *testing.T, it api.Item) {
	t.Helper()
	want := valueOf(reflect.ValueOf(it))
	if v := edi.Value(it); !sameValue(v, want) {
		t.Fatalf("Value of %s: %s, want %s", shown(it), begin(fmt.Sprint(v)), begin(fmt.Sprint(want)))
	}
	checkFromValue(t, want, it, api.OK)
}

// sameValue tells whether two values have equal fields; no elements and nil are equal.
func sameValue(v, w api.Value) bool {
	if v.Kind != w.Kind || v.N != w.N || string(v.B) != string(w.B) || len(v.L) != len(w.L) {
		return false
	}
	for i := range v.L {
		if !sameValue(v.L[i], w.L[i]) {
			return false
		}
	}
	return true
}
