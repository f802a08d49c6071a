package calendar_test

import (
	"math/rand"
	"slices"
	"testing"

	"wagonpool/api"
	"wagonpool/calendar"
	"wagonpool/spans"
)

// working returns what Working returns, which must be no error.
func working(t *testing.T, c api.Calendar, from, to int) int {
	t.Helper()
	n, e := calendar.Working(c, from, to)
	if e != api.OK {
		t.Fatalf("Working of %v from %d to %d: %v", c, from, to, e)
	}
	return n
}

// P6.6: DateOf inverts Day, for each date of the years 2000 to 4000.
func TestDateOfInvertsDay(t *testing.T) {
	found := 0
	for year := 2000; year <= 4000; year++ {
		for i := 1; i <= 12; i++ {
			for day := 1; day <= 31; day++ {
				d := api.Date{Year: year, Month: i, Day: day}
				if n, e := calendar.Day(d); e == api.OK {
					checkDate(t, n, d, api.OK)
					found++
				}
			}
		}
	}
	if found != 730851 {
		t.Fatalf("%d dates, want 730851", found)
	}
}

// P6.6: the months partition the minutes: each begins where the one before it ends, and the minutes within it belong to it.
func TestMonthsPartition(t *testing.T) {
	end := 0
	for k := 0; ; k++ {
		s, e := calendar.MonthSpan(k)
		if e != api.OK {
			break
		}
		if s.From != end || s.To <= s.From {
			t.Fatalf("MonthSpan of %d: %v, and the one before it ends at %d", k, s, end)
		}
		checkMonth(t, s.From, k, api.OK)
		checkMonth(t, (s.From+s.To)/2, k, api.OK)
		checkMonth(t, s.To-1, k, api.OK)
		end = s.To
	}
	if end != maxTime {
		t.Fatalf("the last month ends at %d", end)
	}
}

// P6.6: Working is additive, over short and over long ranges.
func TestWorkingIsAdditive(t *testing.T) {
	r := rand.New(rand.NewSource(3))
	for _, limit := range []int{5000, 100000, maxTime} {
		for _, c := range append(calendars(), randomCalendar(r, 3), randomCalendar(r, lastDay-5)) {
			for range 3 {
				at := []int{r.Intn(limit + 1), r.Intn(limit + 1), r.Intn(limit + 1)}
				slices.Sort(at)
				first, second, both := working(t, c, at[0], at[1]), working(t, c, at[1], at[2]), working(t, c, at[0], at[2])
				if first+second != both {
					t.Fatalf("Working of %v between %v: %d and %d, but %d", c, at, first, second, both)
				}
			}
		}
	}
}

// P6.6: After inverts Working.
func TestAfterInvertsWorking(t *testing.T) {
	r := rand.New(rand.NewSource(4))
	for _, limit := range []int{5000, 100000, maxTime} {
		for _, c := range append(calendars(), randomCalendar(r, 3), randomCalendar(r, lastDay-5)) {
			for range 3 {
				from := r.Intn(limit + 1)
				all := working(t, c, from, maxTime)
				n := 1 + r.Intn(limit)
				m, e := calendar.After(c, from, n)
				if n > all {
					checkAfter(t, c, from, n, 0, api.ErrLimit)
					continue
				}
				if e != api.OK || working(t, c, from, m) != n || working(t, c, from, m-1) != n-1 {
					t.Fatalf("After of %v from %d with n = %d: %d, %v", c, from, n, m, e)
				}
			}
		}
	}
}

// common returns the calendar with the intersected spans and the holidays of both.
func common(c, d api.Calendar) (x api.Calendar) {
	for i := range x.Open {
		x.Open[i].From = max(c.Open[i].From, d.Open[i].From)
		x.Open[i].To = max(x.Open[i].From, min(c.Open[i].To, d.Open[i].To))
	}
	x.Holidays = slices.Concat(c.Holidays, d.Holidays)
	slices.Sort(x.Holidays)
	x.Holidays = slices.Compact(x.Holidays)
	return x
}

// P6.6: the working minutes of the calendar with the intersected spans and the holidays of both are those of both.
func TestIntersectedCalendars(t *testing.T) {
	r := rand.New(rand.NewSource(5))
	for _, around := range []int{0, lastDay / 2, lastDay - 8} {
		for range 1000 {
			c, d := randomCalendar(r, around), randomCalendar(r, around)
			from, to := randomRange(r, around)
			first, _ := calendar.Open(c, from, to)
			second, _ := calendar.Open(d, from, to)
			checkOpen(t, common(c, d), from, to, spans.Intersect(first, second), api.OK)
		}
	}
	for _, c := range calendars() {
		for _, d := range calendars() {
			for _, from := range []int{0, maxTime - 40000} {
				first, _ := calendar.Open(c, from, from+40000)
				second, _ := calendar.Open(d, from, from+40000)
				checkOpen(t, common(c, d), from, from+40000, spans.Intersect(first, second), api.OK)
			}
		}
	}
}
