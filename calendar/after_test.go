package calendar_test

import (
	"math/rand"
	"testing"

	"wagonpool/api"
)

// checkAfters compares After with the definition, from one minute and for all n up to the working minutes that `days` days have; for more working minutes, there must be none.
func checkAfters(t *testing.T, c api.Calendar, from, to int) {
	t.Helper()
	n := 0
	checkAfter(t, c, from, 0, from, api.OK)
	for m := from; m < to; m++ {
		if works(c, m) {
			n++
			checkAfter(t, c, from, n, m+1, api.OK)
		}
	}
	if to == maxTime {
		checkAfter(t, c, from, n+1, 0, api.ErrLimit)
	}
}

// P6.4: the examples of the chapter.
func TestAfterExamples(t *testing.T) {
	checkAfter(t, workdays(), 0, 1, 3361, api.OK)
	checkAfter(t, workdays(), 0, 480, 3840, api.OK)
	checkAfter(t, workdays(), 0, 481, 4801, api.OK)
}

// P6.4: calendars of all sorts, minute by minute at the beginning and at the end of time.
func TestAfter(t *testing.T) {
	for _, c := range calendars() {
		for _, from := range []int{0, 1439, 1440, 3360, 3361, 3839, 3840, 3841, 14000} {
			checkAfters(t, c, from, from+4000)
		}
		for _, from := range []int{maxTime - 5000, lastSpan - 1440, lastSpan - 1, lastSpan, lastSpan + 1, maxTime - 2, maxTime - 1, maxTime} {
			checkAfters(t, c, from, maxTime)
		}
	}
}

// P6.4: random calendars, minute by minute.
func TestAfterRandom(t *testing.T) {
	r := rand.New(rand.NewSource(2))
	for range 20 {
		for _, around := range []int{0, 59, lastDay / 2, lastDay - 8, lastDay - 1} {
			from, to := randomRange(r, around)
			checkAfters(t, randomCalendar(r, around), from, to)
		}
	}
}

// P6.4: with n = 0, After returns the minute itself, also on a holiday, beside the working minutes and at the ends of time.
func TestAfterNothing(t *testing.T) {
	for _, c := range append(calendars(), daily(0, 1440, 0, 3, lastDay), daily(0, 0)) {
		for _, from := range []int{0, 1, 480, 960, 3 * 1440, 3*1440 + 500, lastSpan, maxTime - 1, maxTime} {
			checkAfter(t, c, from, 0, from, api.OK)
		}
	}
}

// P6.4: the last working minute before MaxTime, from the beginning of time, and one more.
func TestAfterLast(t *testing.T) {
	checkAfter(t, daily(0, 1440), 0, maxTime, maxTime, api.OK)
	checkAfter(t, daily(0, 1440), 0, maxTime+1, 0, api.ErrLimit)
	checkAfter(t, daily(0, 1440), 7, maxTime-7, maxTime, api.OK)
	checkAfter(t, daily(0, 1440), 7, maxTime-6, 0, api.ErrLimit)
	checkAfter(t, daily(63, 64), 0, lastDay+1, maxTime, api.OK)
	checkAfter(t, daily(63, 64), 0, lastDay+2, 0, api.ErrLimit)
	checkAfter(t, daily(64, 65), 0, lastDay, lastSpan-1440+65, api.OK)
	checkAfter(t, daily(64, 65), 0, lastDay+1, 0, api.ErrLimit)
	checkAfter(t, daily(0, 10, lastDay), 0, 10*lastDay, lastSpan-1440+10, api.OK)
	checkAfter(t, daily(0, 10, lastDay), 0, 10*lastDay+1, 0, api.ErrLimit)
	checkAfter(t, daily(0, 10, 0, 7, lastDay), 0, 10*(lastDay-2), lastSpan-1440+10, api.OK)
	checkAfter(t, daily(0, 10), maxTime-64, 10, maxTime-54, api.OK)
	checkAfter(t, daily(0, 10), maxTime-63, 10, 0, api.ErrLimit)
}

// P6.4: calendars without a single working minute, and with none that is left.
func TestAfterNever(t *testing.T) {
	all := daily(0, 1440)
	for day := range lastDay + 1 {
		all.Holidays = append(all.Holidays, day)
	}
	for _, c := range []api.Calendar{{}, daily(0, 0), daily(1440, 1440), daily(700, 700, 0, 5), all} {
		for _, from := range []int{0, 1, 5000, maxTime - 1, maxTime} {
			for _, n := range []int{1, 2, maxTime, greatest} {
				checkAfter(t, c, from, n, 0, api.ErrLimit)
			}
			checkAfter(t, c, from, 0, from, api.OK)
		}
	}
	for _, c := range calendars() {
		checkAfter(t, c, maxTime, 1, 0, api.ErrLimit)
		checkAfter(t, c, maxTime-100, 101, 0, api.ErrLimit)
		checkAfter(t, c, 0, greatest, 0, api.ErrLimit)
		checkAfter(t, c, maxTime, greatest, 0, api.ErrLimit)
	}
}

// P6.4: calendars, minutes and numbers that are not valid.
func TestAfterErrors(t *testing.T) {
	for _, c := range invalid() {
		for _, n := range []int{-1, 0, 1, greatest} {
			checkAfter(t, c, 0, n, 0, api.ErrArg)
			checkAfter(t, c, maxTime, n, 0, api.ErrArg)
		}
	}
	for _, c := range append(calendars(), invalid()...) {
		for _, from := range []int{least, -1440, -1, maxTime + 1, maxTime + 1440, greatest} {
			for _, n := range []int{least, -1, 0, 1, greatest} {
				checkAfter(t, c, from, n, 0, api.ErrArg)
			}
		}
		for _, n := range []int{least, -1440, -1} {
			checkAfter(t, c, 0, n, 0, api.ErrArg)
			checkAfter(t, c, 3400, n, 0, api.ErrArg)
			checkAfter(t, c, maxTime, n, 0, api.ErrArg)
		}
	}
}
