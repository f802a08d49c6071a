package money_test

import (
	"math/big"
	"math/rand"
	"strings"
	"testing"

	"wagonpool/api"
	"wagonpool/money"
)

// P7.1: the examples of the chapter.
func TestTextExamples(t *testing.T) {
	checkText(t, -1205, "-12.05")
	checkText(t, 5, "0.05")
	checkText(t, 0, "0.00")
	checkParse(t, "90071992547409.92", 1<<53, api.OK)
	checkParse(t, "90071992547409.93", 0, api.ErrOverflow)
	checkParse(t, "12.5", 0, api.ErrForm)
	checkParse(t, "-0.00", 0, api.ErrForm)
}

// P7.1: Text of small numbers, of the samples, and of the least and the greatest integer.
func TestText(t *testing.T) {
	for a, s := range map[int]string{
		1: "0.01", -1: "-0.01", 9: "0.09", 10: "0.10", 99: "0.99", -99: "-0.99", 100: "1.00", -100: "-1.00", 101: "1.01", 1000: "10.00", -1234567: "-12345.67",
		limit: "90071992547409.92", -limit: "-90071992547409.92", limit + 1: "90071992547409.93", greatest: "92233720368547758.07", least: "-92233720368547758.08", least + 1: "-92233720368547758.07",
	} {
		checkText(t, a, s)
	}
	for _, a := range numbers() {
		checkText(t, a, text(wide(a)))
	}
	for a := -20000; a <= 20000; a++ {
		checkText(t, a, text(wide(a)))
	}
	r := rand.New(rand.NewSource(5))
	for range 20000 {
		a := int(r.Uint64()) >> r.Intn(64)
		checkText(t, a, text(wide(a)))
	}
}

// P7.1: what is not the text of an integer.
func TestParseForm(t *testing.T) {
	for _, s := range []string{
		"", "-", "--1.00", "-0.00", "+1.00", "+0.00", "01.00", "00.00", "-01.00", "-00.01", "00.01", ".50", "-.50", "1.5", "1.500", "1,50", "1", "-1", "0", "100", "1.", "-1.", ".", "-.", "..", "1..00", "1.0.0", "1.00.", ".1.00", "1.00-", "1-.00", "1.-0", "1.0-", "1.+0",
		" 1.00", "1.00 ", "1 .00", "1. 00", "- 1.00", "\t1.00", "1.00\n", "\n1.00", "1.00\x00", "\x001.00", "1.0\x00", "a.00", "1.0a", "0x1.00", "1e2.00", "1_000.00", "1.0_", "1.00e1", "1'000.00", "1,000.00", "inf", "NaN", "-inf", "1:00", "1/00", "\xff1.00", "1.\xff0",
		"١.٠٠", "1.٠٠", "１.００", "1．00", "−1.00", "½.00", "1.00€", "€1.00",
	} {
		checkParse(t, s, 0, api.ErrForm)
	}
}

// P7.1: texts of integers of all sizes, in the range and beyond it.
func TestParseSizes(t *testing.T) {
	check := func(x *big.Int) {
		t.Helper()
		want, errno := amount(x)
		checkParse(t, text(x), want, errno)
	}
	for _, a := range numbers() {
		check(wide(a))
		check(new(big.Int).Mul(wide(a), wide(a)))
		check(new(big.Int).Mul(wide(a), wide(greatest)))
	}
	// Beyond 64 bits, also where the last 64 bits are a small number.
	for shift := uint(50); shift < 400; shift++ {
		for near := -3; near <= 3; near++ {
			x := new(big.Int).Lsh(wide(1), shift)
			x.Add(x, wide(near))
			check(x)
			check(new(big.Int).Neg(x))
		}
	}
	for digits := 1; digits < 700; digits++ {
		for _, sign := range []string{"", "-"} {
			for _, digit := range []string{"1", "9"} {
				s := strings.Repeat(digit, digits) + ".05"
				want, errno := parse(sign + s)
				checkParse(t, sign+s, want, errno)
				if digits > 14 {
					checkParse(t, sign+s, 0, api.ErrOverflow)
				}
				checkParse(t, sign+"0"+s, 0, api.ErrForm)
				checkParse(t, sign+s+"0", 0, api.ErrForm)
				checkParse(t, sign+s[:len(s)-1], 0, api.ErrForm)
				checkParse(t, sign+s+sign+".", 0, api.ErrForm)
			}
		}
	}
	checkParse(t, strings.Repeat("7", 1<<20)+".00", 0, api.ErrOverflow)
	checkParse(t, "-"+strings.Repeat("7", 1<<20)+".00", 0, api.ErrOverflow)
	checkParse(t, strings.Repeat("0", 1<<20)+".00", 0, api.ErrForm)
	checkParse(t, strings.Repeat("7", 1<<20), 0, api.ErrForm)
}

// P7.6: Parse accepts the texts and nothing else: all short sequences of the bytes of a text and of bytes beside them.
func TestParseShort(t *testing.T) {
	const letters = "-.0159+, \n/:"
	var visit func(s string, n int)
	visit = func(s string, n int) {
		want, errno := parse(s)
		checkParse(t, s, want, errno)
		if n > 0 {
			for i := range len(letters) {
				visit(s+letters[i:i+1], n-1)
			}
		}
	}
	visit("", 5)
	for _, begin := range []string{"-1", "-10.", "1.2", "-0.", "0.0", "9007199254740", "-9007199254740", "90071992547409.", "-90071992547409."} {
		visit(begin, 4)
	}
}

// P7.6: texts with one byte replaced, inserted or left out.
func TestParseChanged(t *testing.T) {
	for _, s := range []string{"0.00", "0.05", "-0.05", "1.00", "-1.00", "12.34", "-100.00", "-987654.32", "90071992547409.92", "-90071992547409.92"} {
		check := func(s string) {
			t.Helper()
			want, errno := parse(s)
			checkParse(t, s, want, errno)
		}
		check(s)
		for i := range len(s) + 1 {
			for b := range 256 {
				check(s[:i] + string([]byte{byte(b)}) + s[i:])
			}
			if i < len(s) {
				check(s[:i] + s[i+1:])
				for b := range 256 {
					check(s[:i] + string([]byte{byte(b)}) + s[i+1:])
				}
			}
		}
	}
}

// P7.6: Parse inverts Text for amounts, and refuses the texts of all other integers.
func TestParseInvertsText(t *testing.T) {
	check := func(a int) {
		t.Helper()
		if inRange(a) {
			checkParse(t, money.Text(a), a, api.OK)
		} else {
			checkParse(t, money.Text(a), 0, api.ErrOverflow)
		}
	}
	for a := -20000; a <= 20000; a++ {
		check(a)
	}
	for near := -1000; near <= 1000; near++ {
		check(limit + near)
		check(near - limit)
		check(greatest - 1000 + near)
		check(least + 1000 + near)
	}
	for _, a := range numbers() {
		check(a)
	}
	r := rand.New(rand.NewSource(6))
	for range 20000 {
		check(random(r))
	}
}
