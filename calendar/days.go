package calendar

import (
	"iter"
	"sort"

	"wagonpool/api"
)

const (
	minutesOfDay = 24 * 60
	monthsOfYear = 12
	firstYear    = 2000
	lastYear     = 4000 // of the dates that Day accepts; the last day is later
	lastDay      = api.MaxTime / minutesOfDay
	firstWeekday = 5 // 2000-01-01 is a Saturday
)

// monthLengths are those of a year without a 29th of February.
var monthLengths = [monthsOfYear]int{31, 28, 31, 30, 31, 30, 31, 31, 30, 31, 30, 31}

// isDay reports whether n is the number of a day.
func isDay(n int) bool {
	return n >= 0 && n <= lastDay
}

// leap reports whether a year has a 29th of February.
func leap(year int) bool {
	return year%4 == 0 && year%100 != 0 || year%400 == 0
}

// monthLength returns the number of days of a month (1 to 12).
func monthLength(year, month int) int {
	if month == 2 && leap(year) {
		return 29
	}
	return monthLengths[month-1]
}

// yearBegin returns the first day of a year from 2000 on.
func yearBegin(year int) int {
	years := year - firstYear
	// 2000 itself is divisible by 4, 100 and 400: the numbers of the years divisible by them, before this year, are rounded up.
	leaps := (years+3)/4 - (years+99)/100 + (years+399)/400
	return 365*years + leaps
}

// yearOf returns the year of a day.
func yearOf(day int) int {
	year := firstYear + day/366 // no year has more days, so this is at most a few years too early
	for yearBegin(year+1) <= day {
		year++
	}
	return year
}

// monthBegin returns the first day of a month (1 to 12).
func monthBegin(year, month int) int {
	day := yearBegin(year)
	for m := 1; m < month; m++ {
		day += monthLength(year, m)
	}
	return day
}

// checkRange returns ErrArg unless c is valid and 0 <= from <= to <= MaxTime.
func checkRange(c api.Calendar, from, to int) api.Errno {
	if Check(c) != api.OK || from < 0 || from > to || to > api.MaxTime {
		return api.ErrArg
	}
	return api.OK
}

// shifts produces the working minutes of a valid calendar between from and to, in a span for each day that has any.
func shifts(c api.Calendar, from, to int) iter.Seq[api.Span] {
	return func(yield func(api.Span) bool) {
		day := from / minutesOfDay
		holidays := c.Holidays[sort.SearchInts(c.Holidays, day):]
		for ; day*minutesOfDay < to; day++ {
			if len(holidays) > 0 && holidays[0] == day {
				holidays = holidays[1:]
				continue
			}
			begin, open := day*minutesOfDay, c.Open[Weekday(day)]
			s := api.Span{From: max(begin+open.From, from), To: min(begin+open.To, to)}
			if s.From < s.To && !yield(s) {
				return
			}
		}
	}
}
