package money

import (
	"cmp"
	"math/bits"
	"slices"
	"strings"

	"wagonpool/api"
)

// maxWeights is the greatest number of weights that Share accepts.
const maxWeights = 256

// between reports whether least <= a <= greatest.
func between(least, a, greatest int) bool {
	return least <= a && a <= greatest
}

// inRange reports whether a is an amount.
func inRange(a int) bool {
	return between(-api.MaxAmount, a, api.MaxAmount)
}

// checked returns a, or ErrOverflow if it is no amount.
func checked(a int) (c int, e api.Errno) {
	if !inRange(a) {
		return 0, api.ErrOverflow
	}
	return a, api.OK
}

// rounding returns what is added to 2 * a, so that divided by 2 * b and rounded down, it is a / b rounded as the mode says.
func rounding(b, mode int) (lift int, e api.Errno) {
	switch mode {
	case api.ExUp:
		lift = b - 1
		fallthrough
	case api.ExHalf:
		lift += b
		fallthrough
	case api.ExDown:
		return lift, api.OK
	}
	return 0, api.ErrArg
}

// divide returns a / b rounded down, for b > 0; Go rounds towards 0.
func divide(a, b int) int {
	if a%b < 0 {
		return a/b - 1
	}
	return a / b
}

// proportion returns a * b / c, rounded down, and the remainder. None of them is negative, c is not 0, and a is at most c or b is at most c, so that the quotient fits; the product may have more than 64 bits.
func proportion(a, b, c int) (quotient, remainder int) {
	high, low := bits.Mul64(uint64(a), uint64(b))
	q, r := bits.Div64(high, low, uint64(c))
	return int(q), int(r)
}

// apportion divides t, which is not negative, in proportion to weights, whose sum is not 0.
func apportion(t, sum int, weights []int) (parts []int) {
	parts = make([]int, len(weights))
	remainders := make([]int, len(weights))
	order := make([]int, len(weights))
	left := t
	for i, w := range weights {
		parts[i], remainders[i] = proportion(t, w, sum)
		order[i] = i
		left -= parts[i]
	}
	slices.SortFunc(order, func(i, j int) int {
		return cmp.Or(cmp.Compare(remainders[j], remainders[i]), cmp.Compare(i, j))
	})
	for _, i := range order[:left] {
		parts[i]++
	}
	return parts
}

// hundredths returns the integer whose text is s, as a decimal number; false if s is no text of an integer.
func hundredths(s string) (number string, ok bool) {
	size, negative := strings.CutPrefix(s, "-")
	units, cents, _ := strings.Cut(size, ".")
	switch {
	case !isDigits(units) || !isDigits(cents) || len(cents) != 2:
		return "", false
	case units[0] == '0' && len(units) > 1:
		return "", false
	case negative && size == "0.00":
		return "", false
	case negative:
		return "-" + units + cents, true
	}
	return units + cents, true
}

// isDigits reports whether s consists of one decimal digit or more.
func isDigits(s string) bool {
	return s != "" && strings.Trim(s, "0123456789") == ""
}
