package money_test

import (
	"slices"
	"testing"

	"wagonpool/api"
	"wagonpool/money"
)

// lists returns valid and invalid arguments of Sum and Share.
func lists() [][]int {
	return slices.Concat(weightLists(), invalidWeights(), [][]int{numbers(), amounts(), slices.Repeat([]int{3}, 257), {limit, -limit, limit}, {5, -2, 8}})
}

// R2: Sum and Share write neither to their argument nor behind it, and the parts share no memory with it.
func TestArgumentsUnchanged(t *testing.T) {
	for _, l := range lists() {
		memory := append(slices.Clone(l), 9, 8, 7)
		want := slices.Clone(memory)
		for _, total := range []int{0, 100, -100, limit, -limit, limit + 1} {
			argument := memory[:len(l)]
			money.Sum(argument)
			parts, _ := money.Share(total, argument)
			parts = parts[:cap(parts)]
			for i := range parts {
				parts[i] = -77
			}
			if !slices.Equal(memory, want) {
				t.Fatalf("the memory of %v is now %v", want, memory)
			}
		}
	}
}

// R2: the parts do not change if the weights or the parts of another call change.
func TestPartsUnchanged(t *testing.T) {
	for _, l := range weightLists() {
		for _, total := range totals() {
			weights := slices.Clone(l)
			parts, _ := money.Share(total, weights)
			want := slices.Clone(parts)
			clear(weights)
			others, _ := money.Share(total, l)
			clear(others[:cap(others)])
			if !slices.Equal(parts, want) {
				t.Fatalf("Share of %d among %v: %v, but then %v", total, l, want, parts)
			}
		}
	}
}

// R3: nil is an empty list.
func TestNil(t *testing.T) {
	for _, l := range [][]int{nil, {}, make([]int, 0, 5)} {
		checkSum(t, l, 0, api.OK)
		for _, total := range append(numbers(), totals()...) {
			checkShare(t, total, l, nil, api.ErrArg)
		}
	}
}

// R6: equal calls return equal results, whatever was called in between.
func TestEqualCalls(t *testing.T) {
	type results struct {
		add, sub, mul, down, half, up, worth, parsed int
		errnos                                       [8]api.Errno
		text                                         string
	}
	call := func(a, b int) (r results) {
		r.add, r.errnos[0] = money.Add(a, b)
		r.sub, r.errnos[1] = money.Sub(a, b)
		r.mul, r.errnos[2] = money.Mul(a, b)
		r.down, r.errnos[3] = money.Div(a, b, api.ExDown)
		r.half, r.errnos[4] = money.Div(a, b, api.ExHalf)
		r.up, r.errnos[5] = money.Div(a, b, api.ExUp)
		r.worth, r.errnos[6] = money.Worth(a, 5, b, 100, 10)
		r.text = money.Text(a)
		r.parsed, r.errnos[7] = money.Parse(r.text)
		return r
	}
	for _, a := range numbers() {
		for _, b := range numbers() {
			first := call(a, b)
			call(b, a)
			if again := call(a, b); again != first {
				t.Fatalf("%d and %d: %v, and before %v", a, b, again, first)
			}
		}
	}
	for _, l := range lists() {
		for _, total := range totals() {
			sum, sumErrno := money.Sum(l)
			parts, partsErrno := money.Share(total, l)
			money.Sum(parts)
			money.Share(-total, parts)
			money.Share(total, []int{3, 2, 1})
			checkSum(t, slices.Clone(l), sum, sumErrno)
			checkShare(t, total, slices.Clone(l), parts, partsErrno)
		}
	}
}
