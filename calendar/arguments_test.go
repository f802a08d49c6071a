package calendar_test

import (
	"math"
	"slices"
	"testing"

	"wagonpool/api"
	"wagonpool/calendar"
)

// R2: no function changes the holidays or what lies behind them in their memory.
func TestArgumentsUnchanged(t *testing.T) {
	for _, c := range append(calendars(), invalid()...) {
		memory := append(slices.Clone(c.Holidays), 9, 8, 7)
		want := slices.Clone(memory)
		spansBefore := c.Open
		c.Holidays = memory[:len(c.Holidays)]
		calendar.Check(c)
		calendar.Open(c, 0, 40000)
		calendar.Working(c, 0, 40000)
		calendar.After(c, 0, 5000)
		if !slices.Equal(memory, want) || c.Open != spansBefore {
			t.Fatalf("the memory of %v is now %v", want, memory)
		}
	}
}

// R2, R6: equal calls return equal results, whatever happens to the results of others or to the arguments.
func TestEqualCalls(t *testing.T) {
	for _, c := range calendars() {
		for _, to := range []int{1440, 40000} {
			first, _ := calendar.Open(c, 0, to)
			want := slices.Clone(first)
			holidays := slices.Clone(c.Holidays)
			d := c
			d.Holidays = holidays
			second, _ := calendar.Open(d, 0, to)
			for i := range holidays {
				holidays[i] = math.MaxInt
			}
			for i := range first {
				first[i] = api.Span{From: -77, To: -77}
			}
			if !slices.Equal(second, want) {
				t.Fatalf("Open of %v to %d: %v, then %v", c, to, want, second)
			}
			checkOpen(t, c, 0, to, want, api.OK)
			checkWorking(t, c, 0, to, minutes(want), api.OK)
			n, e := calendar.After(c, 0, 77)
			checkAfter(t, c, 0, 77, n, e)
		}
	}
}

// R3: no holidays and an empty list of them are the same.
func TestNoHolidays(t *testing.T) {
	c, d := workdays(), workdays()
	c.Holidays, d.Holidays = nil, []int{}
	l, e := calendar.Open(c, 0, 40000)
	checkOpen(t, d, 0, 40000, l, e)
	checkWorking(t, d, 0, 40000, minutes(l), api.OK)
	n, e := calendar.After(c, 0, 999)
	checkAfter(t, d, 0, 999, n, e)
}
