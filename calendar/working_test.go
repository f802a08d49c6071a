package calendar_test

import (
	"math/rand"
	"testing"

	"wagonpool/api"
	"wagonpool/spans"
)

// checkRange compares Open and Working with the definition.
func checkRange(t *testing.T, c api.Calendar, from, to int) {
	t.Helper()
	want := open(c, from, to)
	checkOpen(t, c, from, to, want, api.OK)
	checkWorking(t, c, from, to, minutes(want), api.OK)
	if spans.Check(want) != api.OK {
		t.Fatalf("%v is not normal", want)
	}
}

// P6.3: the example of the chapter.
func TestWorkingExample(t *testing.T) {
	checkWorking(t, workdays(), 0, 10080, 2400, api.OK)
	checkOpen(t, workdays(), 0, 10080, []api.Span{{From: 3360, To: 3840}, {From: 4800, To: 5280}, {From: 6240, To: 6720}, {From: 7680, To: 8160}, {From: 9120, To: 9600}}, api.OK)
}

// P6.3: calendars of all sorts, from one to nine days at the beginning, in the middle and at the end of time.
func TestRanges(t *testing.T) {
	for _, c := range calendars() {
		for _, first := range []int{0, 1, 8, lastDay / 2, lastDay - 9, lastDay - 1, lastDay} {
			for days := 1; days <= 9; days++ {
				checkRange(t, c, first*1440, min((first+days)*1440, maxTime))
			}
		}
	}
}

// P6.3: ranges that begin and end at and beside the ends of working spans and of days, also in one minute.
func TestRangesAtEnds(t *testing.T) {
	for _, c := range calendars() {
		for _, day := range []int{2, lastDay - 2} {
			var at []int
			for _, m := range []int{0, 30, 63, 480, 600, 700, 960, 1439} {
				for d := -1; d <= 1; d++ {
					at = append(at, day*1440+m+d, min((day+2)*1440+m+d, maxTime))
				}
			}
			for _, from := range at {
				checkRange(t, c, from, from)
				for _, to := range at {
					if from <= to && (to-from < 3 || to-from > 1430 && to-from < 1450) {
						checkRange(t, c, from, to)
					}
				}
			}
		}
	}
}

// P6.3: random calendars and ranges.
func TestRangesRandom(t *testing.T) {
	r := rand.New(rand.NewSource(1))
	for range 100 {
		for _, around := range []int{0, 59, lastDay / 2, lastDay - 8, lastDay - 1} {
			from, to := randomRange(r, around)
			checkRange(t, randomCalendar(r, around), from, to)
		}
	}
}

// P6.3: ranges of no minute, at the ends of time too.
func TestEmptyRanges(t *testing.T) {
	for _, c := range calendars() {
		for _, m := range []int{0, 1, 1439, 1440, 5000, maxTime - 1, maxTime} {
			checkOpen(t, c, m, m, nil, api.OK)
			checkWorking(t, c, m, m, 0, api.OK)
		}
	}
}

// P6.3: whole days touch, so that all of time is one span, and each holiday is a gap.
func TestAllOfTime(t *testing.T) {
	checkOpen(t, daily(0, 1440), 0, maxTime, []api.Span{{From: 0, To: maxTime}}, api.OK)
	checkWorking(t, daily(0, 1440), 0, maxTime, maxTime, api.OK)
	checkOpen(t, daily(0, 1440, 0, 5, 6, lastDay), 0, maxTime, []api.Span{{From: 1440, To: 7200}, {From: 10080, To: lastSpan}}, api.OK)
	checkWorking(t, daily(0, 1440, 0, 5, 6, lastDay), 0, maxTime, lastSpan-3*1440, api.OK)
	checkOpen(t, daily(0, 0), 0, maxTime, nil, api.OK)
	checkWorking(t, daily(0, 0), 0, maxTime, 0, api.OK)
	checkWorking(t, daily(63, 64), 0, maxTime, lastDay+1, api.OK)
	checkWorking(t, daily(64, 65), 0, maxTime, lastDay, api.OK)
	checkWorking(t, daily(64, 65, 0, lastDay-1, lastDay), 0, maxTime, lastDay-2, api.OK)
}

// P6.3: a span for each day of all of time.
func TestLongList(t *testing.T) {
	var want []api.Span
	for day := range lastDay {
		want = append(want, api.Span{From: 1440*day + 100, To: 1440*day + 200})
	}
	checkOpen(t, daily(100, 200), 0, maxTime, want, api.OK)
}

// P6.3: as many holidays as there are days; without the last of them, somebody works.
func TestManyHolidays(t *testing.T) {
	c := daily(0, 1440)
	for day := range lastDay + 1 {
		c.Holidays = append(c.Holidays, day)
	}
	checkOpen(t, c, 0, maxTime, nil, api.OK)
	checkWorking(t, c, 0, maxTime, 0, api.OK)
	c.Holidays = c.Holidays[:lastDay]
	checkOpen(t, c, 0, maxTime, []api.Span{{From: lastSpan, To: maxTime}}, api.OK)
	checkWorking(t, c, 0, maxTime, 64, api.OK)
}

// P6.3: calendars and ranges that are not valid.
func TestWorkingErrors(t *testing.T) {
	for _, c := range invalid() {
		for _, m := range []int{0, 5000, maxTime} {
			checkOpen(t, c, 0, m, nil, api.ErrArg)
			checkWorking(t, c, 0, m, 0, api.ErrArg)
			checkOpen(t, c, m, m, nil, api.ErrArg)
			checkWorking(t, c, m, m, 0, api.ErrArg)
		}
	}
	for _, c := range append(calendars(), invalid()...) {
		for _, x := range invalidRanges() {
			checkOpen(t, c, x[0], x[1], nil, api.ErrArg)
			checkWorking(t, c, x[0], x[1], 0, api.ErrArg)
		}
	}
}
