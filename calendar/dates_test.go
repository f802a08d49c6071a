package calendar_test

import (
	"testing"

	"wagonpool/api"
	"wagonpool/calendar"
)

func checkDay(t *testing.T, d api.Date, want int, errno api.Errno) {
	t.Helper()
	if n, e := calendar.Day(d); n != want || e != errno {
		t.Fatalf("Day of %v: %d, %v, want %d, %v", d, n, e, want, errno)
	}
}

func checkDate(t *testing.T, n int, want api.Date, errno api.Errno) {
	t.Helper()
	if d, e := calendar.DateOf(n); d != want || e != errno {
		t.Fatalf("DateOf %d: %v, %v, want %v, %v", n, d, e, want, errno)
	}
}

func checkWeekday(t *testing.T, n, want int) {
	t.Helper()
	if w := calendar.Weekday(n); w != want {
		t.Fatalf("Weekday of %d: %d, want %d", n, w, want)
	}
}

// P6.1: the examples of the chapter.
func TestDatesExamples(t *testing.T) {
	checkDay(t, api.Date{Year: 2000, Month: 3, Day: 1}, 60, api.OK)
	checkDay(t, api.Date{Year: 2001, Month: 2, Day: 29}, 0, api.ErrArg)
	checkDay(t, api.Date{Year: 4000, Month: 2, Day: 29}, 730544, api.OK)
	checkDate(t, 0, api.Date{Year: 2000, Month: 1, Day: 1}, api.OK)
	checkDate(t, 365, api.Date{Year: 2000, Month: 12, Day: 31}, api.OK)
	checkDate(t, 366, api.Date{Year: 2001, Month: 1, Day: 1}, api.OK)
	checkWeekday(t, 0, 5)
	checkWeekday(t, 2, 0)
	checkWeekday(t, -1, -1)
}

// P6.1: every day, with its date and its day of the week as package time has them; Day accepts the years up to 4000 only.
func TestAllDays(t *testing.T) {
	for n := 0; n <= lastDay; n++ {
		at := date(n)
		d := api.Date{Year: at.Year(), Month: int(at.Month()), Day: at.Day()}
		checkDate(t, n, d, api.OK)
		checkWeekday(t, n, (int(at.Weekday())+6)%7)
		if d.Year <= 4000 {
			checkDay(t, d, n, api.OK)
		} else {
			checkDay(t, d, 0, api.ErrArg)
		}
	}
}

// P6.1: the last date is one of the year 4041.
func TestLastDate(t *testing.T) {
	if d, e := calendar.DateOf(lastDay); d.Year != 4041 || e != api.OK {
		t.Fatalf("DateOf %d: %v, %v", lastDay, d, e)
	}
	checkDay(t, api.Date{Year: 4000, Month: 12, Day: 31}, 730850, api.OK)
	checkDay(t, api.Date{Year: 4001, Month: 1, Day: 1}, 0, api.ErrArg)
}

// P6.1: what is no day.
func TestNoDays(t *testing.T) {
	for _, n := range []int{-1, -2, -366, lastDay + 1, lastDay + 2, maxTime, -1 << 32, 1 << 32, 1<<32 + 5, least, least + 1, greatest - 1, greatest} {
		checkDate(t, n, api.Date{}, api.ErrArg)
		checkWeekday(t, n, -1)
	}
}

// P6.1: the lengths of the months, in years that are divisible by 4, by 100 and by 400, and in others.
func TestMonthLengths(t *testing.T) {
	lengths := []int{31, 28, 31, 30, 31, 30, 31, 31, 30, 31, 30, 31}
	for year, leap := range map[int]bool{2000: true, 2001: false, 2002: false, 2003: false, 2004: true, 2096: true, 2099: false, 2100: false, 2101: false, 2104: true, 2200: false, 2300: false, 2400: true, 2500: false, 3000: false, 3200: true, 3600: true, 3900: false, 3996: true, 3999: false, 4000: true} {
		for i, length := range lengths {
			if i == 1 && leap {
				length++
			}
			first, e := calendar.Day(api.Date{Year: year, Month: i + 1, Day: 1})
			if e != api.OK {
				t.Fatalf("Day of the first of month %d of %d: %v", i+1, year, e)
			}
			checkDay(t, api.Date{Year: year, Month: i + 1, Day: length}, first+length-1, api.OK)
			checkDay(t, api.Date{Year: year, Month: i + 1, Day: length + 1}, 0, api.ErrArg)
			checkDay(t, api.Date{Year: year, Month: i + 1}, 0, api.ErrArg)
		}
	}
}

// P6.1: what is no date of the years 2000 to 4000.
func TestNoDates(t *testing.T) {
	for _, year := range []int{1999, 1996, 1600, 4001, 4004, 4041, 4400, 0, -1, -2000, 1<<32 + 2000, least, greatest} {
		checkDay(t, api.Date{Year: year, Month: 1, Day: 1}, 0, api.ErrArg)
		checkDay(t, api.Date{Year: year, Month: 12, Day: 31}, 0, api.ErrArg)
	}
	for _, year := range []int{2000, 2001, 4000} {
		for _, i := range []int{0, -1, 13, 14, 1<<32 + 1, least, greatest} {
			checkDay(t, api.Date{Year: year, Month: i, Day: 1}, 0, api.ErrArg)
			checkDay(t, api.Date{Year: year, Month: 1 + i%12, Day: 32}, 0, api.ErrArg)
		}
		for i := 1; i <= 12; i++ {
			for _, day := range []int{0, -1, 32, 33, 1<<32 + 1, least, greatest} {
				checkDay(t, api.Date{Year: year, Month: i, Day: day}, 0, api.ErrArg)
			}
		}
	}
	checkDay(t, api.Date{}, 0, api.ErrArg)
}
