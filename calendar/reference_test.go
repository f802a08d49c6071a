package calendar_test

import (
	"math"
	"math/rand"
	"slices"
	"testing"
	"time"

	"wagonpool/api"
	"wagonpool/calendar"
)

// This file spells the chapter out a second time, with package time for the dates and minute by minute for the working minutes, and contains the samples of the tests.

const (
	maxTime  = 1073741824
	lastDay  = 745654
	lastSpan = lastDay * 1440 // the first minute of the last day, of which 64 minutes are before maxTime
	least    = math.MinInt
	greatest = math.MaxInt
)

// date returns the time at which a day begins.
func date(day int) time.Time {
	return time.Date(2000, 1, 1+day, 0, 0, 0, 0, time.UTC)
}

// month returns the number of the month of a day.
func month(day int) int {
	d := date(day)
	return 12*(d.Year()-2000) + int(d.Month()) - 1
}

// works tells whether minute m, from 0 on, is a working minute.
func works(c api.Calendar, m int) bool {
	if slices.Contains(c.Holidays, m/1440) {
		return false
	}
	s := c.Open[(int(date(m/1440).Weekday())+6)%7] // for package time, Sunday is 0
	return s.From <= m%1440 && m%1440 < s.To
}

// open spells Open out.
func open(c api.Calendar, from, to int) (l []api.Span) {
	for m := from; m < to; m++ {
		switch {
		case !works(c, m):
		case len(l) > 0 && l[len(l)-1].To == m:
			l[len(l)-1].To++
		default:
			l = append(l, api.Span{From: m, To: m + 1})
		}
	}
	return l
}

// minutes returns the number of the minutes of l.
func minutes(l []api.Span) (n int) {
	for _, s := range l {
		n += s.To - s.From
	}
	return n
}

// week returns a calendar whose spans are given by their ends, from Monday on.
func week(ends [14]int, holidays ...int) api.Calendar {
	c := api.Calendar{Holidays: holidays}
	for i := range c.Open {
		c.Open[i] = api.Span{From: ends[2*i], To: ends[2*i+1]}
	}
	return c
}

// daily returns a calendar with the same span on each day.
func daily(from, to int, holidays ...int) api.Calendar {
	return week([14]int{from, to, from, to, from, to, from, to, from, to, from, to, from, to}, holidays...)
}

// workdays is the calendar of the chapter's examples.
func workdays(holidays ...int) api.Calendar {
	return week([14]int{480, 960, 480, 960, 480, 960, 480, 960, 480, 960}, holidays...)
}

// calendars returns valid calendars of all sorts.
func calendars() []api.Calendar {
	return []api.Calendar{
		{},
		{Holidays: []int{}},
		workdays(),
		workdays(0, 2, 3, 6, 10, 13, 14, 15, 16, 17, 18, 19, 20, 21, 22, 23, 30),
		workdays(lastDay-9, lastDay-8, lastDay-4, lastDay-3, lastDay-1),
		// Nobody ever works.
		daily(0, 0, 1, 5),
		daily(1440, 1440),
		daily(700, 700, 0),
		// Whole days.
		daily(0, 1440),
		daily(0, 1440, 0, 1, 3, 7, 12, lastDay-3, lastDay-1, lastDay),
		week([14]int{0, 1440, 0, 1440, 5, 1440, 0, 1435, 0, 0, 1440, 1440, 0, 1440}),
		week([14]int{3, 3, 0, 1440, 720, 720, 0, 1440, 0, 1440, 0, 0, 0, 1440}, 4, 5),
		// Parts of days that touch midnight, and single minutes.
		week([14]int{0, 1, 1439, 1440, 0, 1, 1439, 1440, 0, 1440, 0, 1, 700, 701}, 9, 16),
		week([14]int{600, 1440, 0, 600, 600, 1440, 0, 600, 1, 1439, 2, 3, 1438, 1439}),
		// One day of the week.
		week([14]int{10: 60, 11: 64}),
		week([14]int{12: 0, 13: 1440}, 1),
		week([14]int{0: 1439, 1: 1440}, 2, 9),
		// Around the end of time: the last day has 64 minutes.
		daily(63, 64),
		daily(64, 1440),
		daily(0, 64, lastDay),
		daily(30, 90, lastDay-6, lastDay-1),
	}
}

// invalid returns calendars that are not valid.
func invalid() (l []api.Calendar) {
	for i := range 7 {
		for _, s := range []api.Span{{From: 1, To: 0}, {From: -1, To: 5}, {From: -2, To: -1}, {From: 0, To: 1441}, {From: 1441, To: 1441}, {From: 1440, To: 1439}, {From: 0, To: -1}, {From: -1, To: -1}, {From: least, To: 0}, {From: least, To: least}, {From: 0, To: greatest}, {From: greatest, To: greatest}, {From: least, To: greatest}, {From: greatest, To: least}} {
			c := workdays(1, 2)
			c.Open[i] = s
			l = append(l, c)
		}
	}
	for _, holidays := range [][]int{{-1}, {-1, 0}, {-1440}, {0, 0}, {5, 5}, {4, 5, 5, 6}, {5, 4}, {1, 3, 2}, {1, 3, 0}, {3, 2, 4}, {lastDay + 1}, {0, lastDay, lastDay + 1}, {lastDay, lastDay}, {lastDay, 0}, {least}, {greatest}, {least, greatest}, {greatest, least}, {0, greatest}, {0, least}} {
		l = append(l, workdays(holidays...), daily(0, 0, holidays...))
	}
	return l
}

// randomCalendar returns a valid calendar with holidays around a day.
func randomCalendar(r *rand.Rand, around int) (c api.Calendar) {
	for i := range c.Open {
		switch r.Intn(4) {
		case 0:
			c.Open[i] = api.Span{From: 0, To: 1440}
		case 1:
			from := r.Intn(1441)
			c.Open[i] = api.Span{From: from, To: from}
		default:
			from := r.Intn(1441)
			c.Open[i] = api.Span{From: from, To: from + r.Intn(1441-from)}
		}
	}
	for range r.Intn(8) {
		if day := around - 4 + r.Intn(16); day >= 0 && day <= lastDay {
			c.Holidays = append(c.Holidays, day)
		}
	}
	slices.Sort(c.Holidays)
	c.Holidays = slices.Compact(c.Holidays)
	return c
}

// randomRange returns a range of up to 10 days that begins near a day.
func randomRange(r *rand.Rand, around int) (from, to int) {
	from = min(around*1440+r.Intn(3*1440), maxTime)
	to = min(from+r.Intn(1+[]int{2, 1440, 10 * 1440}[r.Intn(3)]), maxTime)
	return from, to
}

// invalidRanges returns the ranges that Open and Working refuse.
func invalidRanges() [][2]int {
	return [][2]int{{-1, 0}, {-1, -1}, {-1, maxTime}, {1, 0}, {maxTime, maxTime - 1}, {0, maxTime + 1}, {maxTime, maxTime + 1}, {maxTime + 1, maxTime + 1}, {maxTime + 1, maxTime}, {0, -1}, {least, 0}, {least, least}, {least, greatest}, {0, greatest}, {greatest, greatest}, {greatest, least}, {0, least}}
}

func checkOpen(t *testing.T, c api.Calendar, from, to int, want []api.Span, errno api.Errno) {
	t.Helper()
	l, e := calendar.Open(c, from, to)
	if e != errno || !slices.Equal(l, want) {
		t.Fatalf("Open of %v from %d to %d: %v, %v, want %v, %v", c, from, to, l, e, want, errno)
	}
}

func checkWorking(t *testing.T, c api.Calendar, from, to, want int, errno api.Errno) {
	t.Helper()
	if n, e := calendar.Working(c, from, to); n != want || e != errno {
		t.Fatalf("Working of %v from %d to %d: %d, %v, want %d, %v", c, from, to, n, e, want, errno)
	}
}

func checkAfter(t *testing.T, c api.Calendar, from, n, want int, errno api.Errno) {
	t.Helper()
	if m, e := calendar.After(c, from, n); m != want || e != errno {
		t.Fatalf("After of %v from %d with n = %d: %d, %v, want %d, %v", c, from, n, m, e, want, errno)
	}
}
