package edi_test

import (
	"slices"
	"strings"
	"testing"

	"wagonpool/api"
	"wagonpool/edi"
)

// checkRefused checks that strings are no messages.
func checkRefused(t *testing.T, l ...string) {
	t.Helper()
	for _, s := range l {
		checkParse(t, s, api.Item{}, api.ErrForm)
		if _, e := parseOf(s); e != api.ErrForm {
			t.Fatalf("the second spelling accepts %q", s)
		}
	}
}

// P11.1: the strings that the chapter refuses.
func TestParseExamples(t *testing.T) {
	checkRefused(t, "READ+w012'", "READ+w0'", "READ+o3+w12'", "READ+w12", "READ+w12' ", "TARIFF+x?41'", "")
}

// P11.1: tags, and what is before and after a message.
func TestParseTags(t *testing.T) {
	checkRefused(t, "'", "+'", "''", "+w1'", "READ", "READ+", "READ+'", "READ++'", "READ+w1+'", "READ++w1'", "+READ'", "READ''", "READ'READ'", "READ+w1''", "READ\n'", "READ'\n", "READ'\x00", "\x00READ'", " READ'", "READ '", "READ +w1'",
		"read'", "Read'", "REA'", "READS'", "EAD'", "READREAD'", "READw1'", "X'", "1'", "TARIF'", "RETRACTR'", "READ\xff'", "RÉAD'", "READ+RECEIVE'", "READ+w1+RECEIVE'", "READ,w1'", "READ?2bw1'", "'+w1'", "'READ'")
	for i, r := range rows {
		checkParse(t, r.tag+"'", api.Item{Kind: i + 1}, api.OK)
		checkParse(t, r.tag+"+w7'", api.Item{Kind: i + 1, Wagon: 7}, api.OK)
		checkRefused(t, r.tag, strings.ToLower(r.tag)+"'", r.tag[1:]+"'", r.tag[:len(r.tag)-1]+"'", r.tag+"+w7", r.tag+r.tag+"'")
	}
}

// P11.1: numbers in other forms than Format writes.
func TestParseNumbers(t *testing.T) {
	forms := []string{"", "0", "00", "-0", "-00", "01", "-01", "007", "+1", "--1", "-", "1-", "1.", ".1", "1.0", "1.2", "1.2.3", "1e3", "0x1", "0b1", "0o1", "1_000", " 1", "1 ", "a", "１", "1\x00", "1a", "9223372036854775808", "-9223372036854775809", "18446744073709551617", "99999999999999999999999999", "-99999999999999999999999999", "1?31", "?31", "∞", "NaN", strings.Repeat("9", 60000), strings.Repeat("0", 60000) + "1"}
	for _, letter := range "wponftcdkga" {
		for _, form := range forms {
			checkRefused(t, "ORDER+"+string(letter)+form+"'")
		}
	}
	for _, form := range append(forms, "5") {
		if form != "1.0" && form != "1.2" {
			checkRefused(t, "ORDER+r"+form+"'")
		}
		if form != "5" {
			checkRefused(t, "ORDER+r"+form+".0'", "ORDER+r0."+form+"'")
		}
		if form != "5" && form != "0" {
			checkRefused(t, "ORDER+q"+form+".1.0'", "ORDER+q1."+form+".0'")
		}
		if form != "0" {
			checkRefused(t, "ORDER+q1.1."+form+"'")
		}
	}
	for _, n := range []string{"9223372036854775807", "-9223372036854775808", "-1", "10", "1000000000000"} {
		for _, letter := range "wponftcdkga" {
			checkParsed(t, "ORDER+"+string(letter)+n+"'")
		}
		checkParsed(t, "ORDER+r"+n+".0'")
		checkParsed(t, "ORDER+r0."+n+"'")
		checkParsed(t, "ORDER+q"+n+"."+n+".1'")
		if _, e := edi.Parse("ORDER+w" + n + "'"); e != api.OK {
			t.Errorf("%s: %v", n, e)
		}
	}
}

// P11.1: references and components in other forms than Format writes.
func TestParseLists(t *testing.T) {
	checkRefused(t,
		"READ+r0.0'", "READ+r'", "READ+r1'", "READ+r.'", "READ+r1.'", "READ+r.1'", "READ+r1.2.3'", "READ+r1,2'", "READ+r01.2'", "READ+r1.02'", "READ+r-0.1'", "READ+r1.-0'", "READ+r1.2+r1.2'", "READ+r1.2+r3.4'", "READ+w1+r1.2'", "READ+q1.2.0+r1.2'",
		"READ+q'", "READ+q1'", "READ+q1.2'", "READ+q1.2.'", "READ+q1.2.2'", "READ+q1.2.-1'", "READ+q1.2.01'", "READ+q1.2.00'", "READ+q1.2.-0'", "READ+q1.2.10'", "READ+q1.2.true'", "READ+q1.2.0.0'", "READ+q.2.0'", "READ+q01.2.0'", "READ+q1.02.0'", "READ+q-0.2.0'", "READ+q1.2.9223372036854775808'", "READ+q9223372036854775808.2.0'",
		"READ+q1.2.0+w1'", "READ+q1.2.0+x1'", "READ+q1.2.0+'", "READ+q1.2.0++q1.2.0'")
	checkParse(t, "READ+q1.2.0+q1.2.0'", api.Item{Kind: 1, Parts: []api.Part{{Kind: 1, Serial: 2}, {Kind: 1, Serial: 2}}}, api.OK)
	checkParse(t, "READ+r0.-1'", api.Item{Kind: 1, Ref: api.Ref{No: -1}}, api.OK)
}

// P11.1: elements in another order, and twice.
func TestParseOrder(t *testing.T) {
	elements := []string{"r1.2", "w3", "p4", "o5", "n6", "f7", "t8", "c9", "d10", "k11", "g12", "a13", "xtext", "q14.15.1"}
	for i, first := range elements {
		for j, second := range elements {
			s := "STAY+" + first + "+" + second + "'"
			if i < j || i == len(elements)-1 && j == i {
				if _, e := edi.Parse(s); e != api.OK {
					t.Errorf("%q: %v", s, e)
				}
			} else {
				checkRefused(t, s)
			}
			checkParsed(t, s)
			swapped := slices.Clone(elements)
			swapped[i], swapped[j] = second, first
			checkParsed(t, "STAY+"+strings.Join(swapped, "+")+"'")
		}
		without := slices.Delete(slices.Clone(elements), i, i+1)
		checkParsed(t, "STAY+"+strings.Join(without, "+")+"'")
	}
	checkRefused(t, "STAY+w1+w1'", "STAY+w1+w2'", "STAY+w2+w1'", "STAY+xa+xa'", "STAY+xa+xb'", "STAY+x+xa'", "STAY+w0+w1'", "STAY+w1+w0'", "STAY+r0.0+r1.2'", "STAY+t2+f1'")
}

// P11.1: each byte as the letter of an element.
func TestParseLetters(t *testing.T) {
	for c := range 256 {
		for _, content := range []string{"1", "1.1", "1.1.1", "a"} {
			s := "STAY+" + string([]byte{byte(c)}) + content + "'"
			checkParsed(t, s)
			want := map[string]string{"1": "wponftcdkgax", "1.1": "rx", "1.1.1": "qx", "a": "x"}[content]
			if _, e := edi.Parse(s); (e == api.OK) != (strings.IndexByte(want, byte(c)) >= 0) {
				t.Errorf("%q: %v", s, e)
			}
		}
	}
	checkRefused(t, "STAY+é1'", "STAY+W1'", "STAY+1w'", "STAY+ w1'", "STAY+ww1'")
}

// P11.1: texts in other forms than Format writes.
func TestParseTexts(t *testing.T) {
	for c := range 256 {
		raw := string([]byte{byte(c)})
		checkParsed(t, "TARIFF+x"+raw+"'")
		checkParsed(t, "TARIFF+xa"+raw+"b'")
		for _, digits := range []string{"0123456789abcdef", "0123456789ABCDEF"} {
			upper, lower := string(digits[c/16]), string(digits[c%16])
			checkParsed(t, "TARIFF+x?"+upper+lower+"'")
			checkParsed(t, "TARIFF+xa?"+upper+lower+"41'")
			// An escape that needs a third byte, or is cut off.
			checkParsed(t, "TARIFF+x?"+lower+"'")
			checkParsed(t, "TARIFF+x?0a?"+lower+"'")
		}
		for d := range 256 {
			checkParsed(t, "TARIFF+x?"+raw+string([]byte{byte(d)})+"'")
		}
	}
	checkRefused(t, "TARIFF+x'", "TARIFF+x+w1'", "TARIFF+x?'", "TARIFF+x?0'", "TARIFF+xa?'", "TARIFF+xa?0'", "TARIFF+x??'", "TARIFF+x?0A'", "TARIFF+x?fF'", "TARIFF+x?20'", "TARIFF+x?7e'", "TARIFF+x?g0'", "TARIFF+x?0g'", "TARIFF+x? 1'", "TARIFF+x?-1'", "TARIFF+x?+1'", "TARIFF+x?_1'", "TARIFF+x?0x'", "TARIFF+x\n'", "TARIFF+xé'", "TARIFF+x\x7f'", "TARIFF+xa'b'", "TARIFF+x'''", "TARIFF+xa+b'")
	checkParse(t, "TARIFF+x?00?ff?7f?1f'", api.Item{Kind: 11, Text: "\x00\xff\x7f\x1f"}, api.OK)
}

// P11.1: strings of the greatest length, and longer ones.
func TestParseLimit(t *testing.T) {
	for _, c := range []string{"a", "+", "'", "+w1", "+q0.0.0", "\xff", "+x", "?", "0.", "READ'"} {
		for _, n := range []int{maxValue - 1, maxValue} {
			checkRefused(t, strings.Repeat(c, n)[:n], ("READ" + strings.Repeat(c, n))[:n], "TARIFF+x"+strings.Repeat("?", n-9)+"'", "READ+w"+strings.Repeat("1", n-7)+"'")
		}
		for _, n := range []int{maxValue + 1, maxValue + 2, 1 << 20} {
			checkParse(t, strings.Repeat(c, n)[:n], api.Item{}, api.ErrLimit)
			checkParse(t, "READ'"+strings.Repeat(" ", n-5), api.Item{}, api.ErrLimit)
			checkParse(t, "READ+w"+strings.Repeat("1", n-7)+"'", api.Item{}, api.ErrLimit)
		}
	}
	checkParse(t, "TARIFF+x"+strings.Repeat("a", maxValue-9)+"'", api.Item{Kind: 11, Text: strings.Repeat("a", maxValue-9)}, api.OK)
	checkParse(t, "TARIFF+x"+strings.Repeat("a", maxValue-8)+"'", api.Item{}, api.ErrLimit)
	// What these say has a message that is too long.
	checkRefused(t, "TARIFF+x"+strings.Repeat("\xff", maxValue-9)+"'")
}

// messages returns some messages, of items of all kinds.
func messages() (l []string) {
	for _, it := range append(validItems(), randomItems(21, 15)...) {
		if s := messageOf(it); len(s) < 120 {
			l = append(l, s)
		}
	}
	return append(l, "STAY+r1.2+w3+p4+o5+n6+f7+t8+c9+d10+k11+g12+a13+xa?2b?ffb+q14.15.1+q0.0.0'")
}

// P11.2: messages of which a byte is left out, doubled or replaced, or into which a byte is inserted, are those of other items, or of none.
func TestParseChangedBytes(t *testing.T) {
	for _, s := range messages() {
		it, _ := parseOf(s)
		for i := range s {
			changed := []string{s[:i] + s[i+1:], s[:i+1] + s[i:]}
			for _, c := range []byte("+'?.-0129afFqrwx \x00\x7f\xff") {
				changed = append(changed, s[:i]+string([]byte{c})+s[i:])
			}
			for c := range 256 {
				changed = append(changed, s[:i]+string([]byte{byte(c)})+s[i+1:])
			}
			for _, x := range changed {
				checkParsed(t, x)
				if y, e := edi.Parse(x); x != s && e == api.OK && same(y, it) {
					t.Fatalf("%q and %q are messages of %s", s, x, shown(it))
				}
			}
		}
		for i := range s {
			checkRefused(t, s[:i])
		}
		checkRefused(t, s+s, s+" ", s+"\n", s+"'", "+"+s)
	}
}

// P11.2: Parse accepts only results of Format.
func TestParseCanonical(t *testing.T) {
	accepted := 0
	var extend func(s string, n int)
	extend = func(s string, n int) {
		it, e := edi.Parse("RECALL" + s + "'")
		if e == api.OK {
			accepted++
			checkFormat(t, it, "RECALL"+s+"'", api.OK)
		}
		for _, c := range []string{"+", "+w", "+x", "+r", "+q", "-", "0", "1", ".", "?", "?0", "f", "'"} {
			if n > 0 {
				extend(s+c, n-1)
			}
		}
	}
	extend("", 5)
	if accepted < 1000 {
		t.Errorf("Parse accepts only %d strings", accepted)
	}
}

// P11.2: Parse returns the item that was formatted, and different items have different messages.
func TestMessagesDiffer(t *testing.T) {
	known := map[string]api.Item{}
	for _, it := range append(anyItems(), randomItems(22, 3000)...) {
		s, e := edi.Format(it)
		if e != api.OK {
			t.Fatalf("%s: %v", shown(it), e)
		}
		checkParse(t, s, it, api.OK)
		if other, ok := known[s]; ok && !same(other, it) {
			t.Fatalf("%s and %s have the same message", shown(it), shown(other))
		}
		known[s] = it
	}
}
