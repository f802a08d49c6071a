package calendar_test

import (
	"testing"

	"wagonpool/api"
	"wagonpool/calendar"
)

func checkValid(t *testing.T, c api.Calendar, want api.Errno) {
	t.Helper()
	if e := calendar.Check(c); e != want {
		t.Fatalf("Check of %v: %v, want %v", c, e, want)
	}
}

// P6.2: valid calendars, and others.
func TestCheck(t *testing.T) {
	for _, c := range calendars() {
		checkValid(t, c, api.OK)
	}
	for _, c := range invalid() {
		checkValid(t, c, api.ErrArg)
	}
}

// P6.2: each span on each day of the week, with ends at and beside the limits.
func TestCheckSpans(t *testing.T) {
	ends := []int{least, -1440, -1, 0, 1, 2, 719, 1438, 1439, 1440, 1441, 2880, greatest}
	for i := range 7 {
		for _, from := range ends {
			for _, to := range ends {
				c := workdays()
				c.Open[i] = api.Span{From: from, To: to}
				want := api.ErrArg
				if 0 <= from && from <= to && to <= 1440 {
					want = api.OK
				}
				checkValid(t, c, want)
			}
		}
	}
}

// P6.2: all lists of up to three holidays at and beside the limits.
func TestCheckHolidays(t *testing.T) {
	days := []int{least, -1, 0, 1, 2, lastDay - 1, lastDay, lastDay + 1, greatest}
	valid := func(l []int) api.Errno {
		for i, day := range l {
			if day < 0 || day > lastDay || i > 0 && day <= l[i-1] {
				return api.ErrArg
			}
		}
		return api.OK
	}
	for _, a := range days {
		checkValid(t, workdays(a), valid([]int{a}))
		for _, b := range days {
			checkValid(t, workdays(a, b), valid([]int{a, b}))
			for _, c := range days {
				checkValid(t, workdays(a, b, c), valid([]int{a, b, c}))
			}
		}
	}
}

// P6.2: every day may be a holiday; one of them twice, the list is not valid.
func TestCheckAllHolidays(t *testing.T) {
	c := daily(0, 1440)
	for day := range lastDay + 1 {
		c.Holidays = append(c.Holidays, day)
	}
	checkValid(t, c, api.OK)
	c.Holidays[lastDay] = lastDay - 1
	checkValid(t, c, api.ErrArg)
}
