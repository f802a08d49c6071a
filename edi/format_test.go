package edi_test

import (
	"strings"
	"testing"

	"wagonpool/api"
)

// P11.1: the chapter's examples, and messages of all kinds that are spelled out.
func TestExamples(t *testing.T) {
	for _, c := range []struct {
		it api.Item
		s  string
	}{
		{api.Item{Kind: api.ItRead, Wagon: 12, Other: 3, From: 100}, "READ+w12+o3+f100'"},
		{api.Item{Kind: api.ItRetract, Ref: api.Ref{Railway: 2, No: 7}}, "RETRACT+r2.7'"},
		{api.Item{Kind: api.ItTariff, Number: 1, Text: "a+b\n"}, "TARIFF+n1+xa?2bb?0a'"},
		{api.Item{Kind: api.ItRecall, Parts: []api.Part{{Kind: 1, Serial: 5}, {Serial: -2, Fitted: true}}}, "RECALL+q1.5.0+q0.-2.1'"},
		{api.Item{Kind: api.ItRead}, "READ'"},
		{api.Item{Kind: api.ItStay, Wagon: 1, Place: 2, From: 3, To: 4}, "STAY+w1+p2+f3+t4'"},
		{api.Item{Kind: api.ItDeliver, Wagon: 1, Place: 2, Other: 3, From: 4, Code: 5}, "DELIVER+w1+p2+o3+f4+c5'"},
		{api.Item{Kind: api.ItReceive, Ref: api.Ref{No: 1}, Wagon: 1, Place: 2, Other: 3, From: 4, Code: 5}, "RECEIVE+r0.1+w1+p2+o3+f4+c5'"},
		{api.Item{Kind: api.ItWaybill, Wagon: 1, Place: 2, Other: 3, Number: 4, From: 5, Dest: 6, Class: 7, Weight: 8}, "WAYBILL+w1+p2+o3+n4+f5+d6+k7+g8'"},
		{api.Item{Kind: api.ItPlaced, Wagon: 1, Place: 2, Other: 3, From: 4, Code: 1}, "PLACED+w1+p2+o3+f4+c1'"},
		{api.Item{Kind: api.ItReleased, Wagon: 1, Place: 2, Other: 3, From: 4}, "RELEASED+w1+p2+o3+f4'"},
		{api.Item{Kind: api.ItDamaged, Wagon: 1, From: 2, Code: 9}, "DAMAGED+w1+f2+c9'"},
		{api.Item{Kind: api.ItRepaired, Wagon: 1, Place: 2, From: 3, To: 4, Code: 1, Amount: 5, Parts: []api.Part{{Kind: 3, Serial: 6, Fitted: true}, {Kind: 3, Serial: 4}}}, "REPAIRED+w1+p2+f3+t4+c1+a5+q3.6.1+q3.4.0'"},
		{api.Item{Kind: api.ItAmend, Number: 2, From: 3, Text: "'?'"}, "AMEND+n2+f3+x?27?3f?27'"},
		{api.Item{Kind: api.ItCancel, Number: 1073741824}, "CANCEL+n1073741824'"},
		{api.Item{Kind: api.ItOrder, Place: 2, Other: 3, Number: 4, From: 5, To: 6, Class: 7, Weight: 8, Amount: 9}, "ORDER+p2+o3+n4+f5+t6+k7+g8+a9'"},
		{api.Item{Kind: api.ItRetract, Ref: api.Ref{Railway: -1}}, "RETRACT+r-1.0'"},
		{api.Item{Kind: api.ItRead, Wagon: least, Amount: greatest}, "READ+w-9223372036854775808+a9223372036854775807'"},
	} {
		checkMessage(t, c.it, c.s)
		if s := messageOf(c.it); s != c.s {
			t.Fatalf("the second spelling has %q instead of %q", s, c.s)
		}
	}
}

// P11.1: all fields at once, in the order of the table.
func TestFormatAllFields(t *testing.T) {
	const rest = "+r14.13+w1+p2+o3+n4+f5+t6+c7+d8+k9+g10+a11+x12+q15.16.0+q17.18.1+q0.0.0'"
	for i, tag := range []string{"READ", "STAY", "DELIVER", "RECEIVE", "WAYBILL", "PLACED", "RELEASED", "DAMAGED", "REPAIRED", "RECALL", "TARIFF", "AMEND", "CANCEL", "RETRACT", "ORDER"} {
		checkMessage(t, api.Item{
			Kind: i + 1, Ref: api.Ref{Railway: 14, No: 13}, Wagon: 1, Place: 2, Other: 3, Number: 4, From: 5, To: 6, Code: 7, Dest: 8, Class: 9, Weight: 10, Amount: 11,
			Text: "12", Parts: []api.Part{{Kind: 15, Serial: 16}, {Kind: 17, Serial: 18, Fitted: true}, {}},
		}, tag+rest)
	}
}

// P11.1: each number alone, with each sample.
func TestFormatNumbers(t *testing.T) {
	for kind := 1; kind <= 15; kind++ {
		for i := range integers(&api.Item{})[1:] {
			for _, n := range samples {
				it := api.Item{Kind: kind}
				*integers(&it)[i+1] = n
				checkMessage(t, it, messageOf(it))
			}
		}
	}
}

// P11.1: references of which one part or both are not zero.
func TestFormatRefs(t *testing.T) {
	for _, railway := range samples {
		for _, no := range samples {
			it := api.Item{Kind: 14, Ref: api.Ref{Railway: railway, No: no}, From: 1}
			checkMessage(t, it, messageOf(it))
		}
	}
}

// P11.1: texts with each byte, alone and between others.
func TestFormatTexts(t *testing.T) {
	for c := range 256 {
		b := byte(c)
		want := "?" + string("0123456789abcdef"[b/16]) + string("0123456789abcdef"[b%16])
		if b >= 32 && b <= 126 && b != '+' && b != '\'' && b != '?' {
			want = string(rune(b))
		}
		checkMessage(t, api.Item{Kind: 11, Text: string([]byte{b})}, "TARIFF+x"+want+"'")
		checkMessage(t, api.Item{Kind: 12, Text: string([]byte{'a', b, b, 'z'})}, "AMEND+xa"+want+want+"z'")
		checkMessage(t, api.Item{Kind: 1, Amount: 3, Text: string([]byte{b}), Parts: []api.Part{{}}}, "READ+a3+x"+want+"+q0.0.0'")
		for d := range 256 {
			it := api.Item{Kind: 13, Text: string([]byte{b, byte(d)})}
			checkMessage(t, it, messageOf(it))
		}
	}
	for _, text := range texts() {
		it := api.Item{Kind: 15, Text: text}
		checkMessage(t, it, messageOf(it))
	}
}

// P11.1: components in their order, fitted and not.
func TestFormatParts(t *testing.T) {
	for _, kind := range samples {
		for _, serial := range samples {
			for _, fitted := range []bool{false, true} {
				x := api.Part{Kind: kind, Serial: serial, Fitted: fitted}
				for _, l := range [][]api.Part{{x}, {x, {Kind: 1}}, {{Kind: 1}, x}, {x, x}} {
					it := api.Item{Kind: 9, Parts: l}
					checkMessage(t, it, messageOf(it))
				}
			}
		}
	}
	for n := range 40 {
		it := api.Item{Kind: 10, Parts: parts(n, true)}
		checkMessage(t, it, messageOf(it))
	}
}

// P11.1: items of all kinds, valid or not.
func TestFormatItems(t *testing.T) {
	for _, it := range append(anyItems(), randomItems(11, 3000)...) {
		checkMessage(t, it, messageOf(it))
	}
}

// P11.1: only kinds from 1 to 15 have a tag; a message that would be too long does not matter then.
func TestFormatKinds(t *testing.T) {
	for _, kind := range samples {
		if kind >= 1 && kind <= 15 {
			continue
		}
		checkFormat(t, api.Item{Kind: kind}, "", api.ErrItem)
		checkFormat(t, api.Item{Kind: kind, Wagon: 1, Ref: api.Ref{No: 1}, Text: "a"}, "", api.ErrItem)
		checkFormat(t, api.Item{Kind: kind, Text: strings.Repeat("a", 100000)}, "", api.ErrItem)
		checkFormat(t, api.Item{Kind: kind, Parts: make([]api.Part, 100000)}, "", api.ErrItem)
	}
}

// longItems returns, for a number of bytes, an item of which the message has as many.
func longItems(n int) (l []api.Item) {
	l = append(l,
		api.Item{Kind: api.ItTariff, Text: strings.Repeat("a", n-len("TARIFF+x'"))},
		api.Item{Kind: api.ItAmend, From: 5, Text: strings.Repeat("\xff", 21000) + strings.Repeat("~", n-63000-len("AMEND+f5+x'"))},
		api.Item{Kind: api.ItRecall, Parts: make([]api.Part, 8000), Text: strings.Repeat("b", n-56000-len("RECALL+x'"))},
	)
	for _, letter := range []string{"\x00", "+", "'", "?", "\x7f"} {
		escapes := (n - len("RETRACT+x'")) / 3
		text := strings.Repeat(letter, escapes)
		l = append(l, api.Item{Kind: api.ItRetract, Text: text + strings.Repeat("c", n-3*escapes-len("RETRACT+x'"))})
	}
	// Components of which each takes 7 bytes, and one that fills what is left.
	count := (n-len("READ'"))/7 - 2
	it := api.Item{Kind: api.ItRead, Parts: make([]api.Part, count)}
	rest := n - len("READ'") - 7*count
	digits := 1
	for range rest - len("+q0.0.0") {
		digits *= 10
	}
	it.Parts = append(it.Parts, api.Part{Serial: digits})
	return append(l, it)
}

// P11.1: messages of 65536 bytes, and of one byte more.
func TestFormatLimit(t *testing.T) {
	for _, n := range []int{maxValue - 1, maxValue} {
		for _, it := range longItems(n) {
			if s := messageOf(it); len(s) != n {
				t.Fatalf("a message of %d bytes instead of %d: %s", len(s), n, shown(it))
			}
			checkMessage(t, it, messageOf(it))
		}
	}
	for _, n := range []int{maxValue + 1, maxValue + 2} {
		for _, it := range longItems(n) {
			checkFormat(t, it, "", api.ErrLimit)
			checkParse(t, messageOf(it), api.Item{}, api.ErrLimit)
		}
	}
	for _, n := range []int{22000, 65000, 65520, maxValue - 1, maxValue, maxValue + 1, 100000, 1 << 24} {
		checkFormat(t, api.Item{Kind: 1, Text: strings.Repeat("\xff", n)}, "", api.ErrLimit)
		checkFormat(t, api.Item{Kind: 15, Parts: make([]api.Part, n)}, "", api.ErrLimit)
	}
}
