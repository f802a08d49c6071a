package calendar_test

import (
	"testing"

	"wagonpool/api"
	"wagonpool/calendar"
)

// lastMonth is the month of minute MaxTime, July 4041.
const lastMonth = 12*2041 + 6

func checkMonth(t *testing.T, m, want int, errno api.Errno) {
	t.Helper()
	if k, e := calendar.Month(m); k != want || e != errno {
		t.Fatalf("Month of %d: %d, %v, want %d, %v", m, k, e, want, errno)
	}
}

func checkSpan(t *testing.T, k int, want api.Span, errno api.Errno) {
	t.Helper()
	if s, e := calendar.MonthSpan(k); s != want || e != errno {
		t.Fatalf("MonthSpan of %d: %v, %v, want %v, %v", k, s, e, want, errno)
	}
}

// P6.5: the examples of the chapter.
func TestMonthExamples(t *testing.T) {
	checkMonth(t, 0, 0, api.OK)
	checkMonth(t, 44640, 1, api.OK)
	checkSpan(t, 1, api.Span{From: 44640, To: 86400}, api.OK)
}

// P6.5: the first and the last minute of each day.
func TestMonthOfDays(t *testing.T) {
	for day := range lastDay {
		k := month(day)
		checkMonth(t, 1440*day, k, api.OK)
		checkMonth(t, 1440*day+1439, k, api.OK)
	}
	for m := lastSpan; m <= maxTime; m++ {
		checkMonth(t, m, lastMonth, api.OK)
	}
}

// P6.5: the span of each month; the last one is cut at MaxTime.
func TestMonthSpans(t *testing.T) {
	from := 0
	for day := 1; day <= lastDay; day++ {
		if k := month(day); k != month(day-1) {
			checkSpan(t, k-1, api.Span{From: from, To: 1440 * day}, api.OK)
			from = 1440 * day
		}
	}
	checkSpan(t, lastMonth, api.Span{From: from, To: maxTime}, api.OK)
}

// P6.5: what is no minute, and what is no month.
func TestMonthErrors(t *testing.T) {
	for _, m := range []int{least, least + 1, -1 << 32, -1440, -2, -1, maxTime + 1, maxTime + 64, maxTime + 1440, 1 << 32, greatest - 1, greatest} {
		checkMonth(t, m, 0, api.ErrArg)
	}
	for _, k := range []int{least, least + 1, -1 << 32, -12, -1, lastMonth + 1, lastMonth + 2, lastMonth + 12, maxTime, 1 << 32, greatest - 1, greatest} {
		checkSpan(t, k, api.Span{}, api.ErrArg)
	}
}
