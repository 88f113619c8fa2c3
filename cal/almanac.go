package cal

import (
	"tenor/api"
	"tenor/date"
)

// almanac tells of days whether they are open. It has the holidays of one year marked at a time, for rules give their days by years, and a walk asks for many days of a year.
type almanac struct {
	calendar    api.Calendar
	first, last int // the days of the year that is marked
	marked      []bool
}

// almanacOf is the almanac of a calendar that may be, where all of those are days.
func almanacOf(c api.Calendar, days ...int) (*almanac, api.Errno) {
	if e, _ := Check(c); e != api.OK {
		return nil, e
	}
	for _, n := range days {
		if !isDay(n) {
			return nil, api.ErrRange
		}
	}
	return &almanac{calendar: c, last: -1}, api.OK
}

func (a *almanac) open(n int) bool {
	return !isWeekend(a.calendar.Weekend, n) && !a.holiday(n)
}

func (a *almanac) holiday(n int) bool {
	if !isBetween(n, a.first, a.last) {
		a.mark(n)
	}
	return a.marked[n-a.first]
}

// mark turns to the year of the day n. What a rule gives in the year ahead of it or behind it may lie in it too: an Easter's early day, or one that was moved.
func (a *almanac) mark(n int) {
	y, _, _, _ := date.Civil(n)
	a.first, _ = date.Of(y, 1, 1)
	a.last, _ = date.Of(y, 12, 31)
	a.marked = make([]bool, a.last-a.first+1)
	for _, r := range a.calendar.Rules {
		h := holidayOf(r)
		for of := y - 1; of <= y+1; of++ {
			given, ok := h.in(of)
			if !ok {
				continue
			}
			if given = moved(given, r.Move, a.calendar.Weekend); isBetween(given, a.first, a.last) {
				a.marked[given-a.first] = true
			}
		}
	}
}

// nearest is n, if it is open, else the first open day that steps that way lead to.
func (a *almanac) nearest(n, step int) (int, api.Errno) {
	if a.open(n) {
		return n, api.OK
	}
	return a.walk(n, step)
}

// nearestOfMonth is nearest, but the other way, where that leads out of n's month or to none.
func (a *almanac) nearestOfMonth(n, step int) (int, api.Errno) {
	found, e := a.nearest(n, step)
	if e != api.OK || !isSameMonth(n, found) {
		return a.nearest(n, -step)
	}
	return found, api.OK
}

// walk is the k-th open day behind n, or, with k below 0, ahead of it. It counts k towards 0 from either side, for the least int has no counterpart above.
func (a *almanac) walk(n, k int) (int, api.Errno) {
	step := 1
	if k < 0 {
		step = -1
	}
	for n += step; isDay(n); n += step {
		if a.open(n) {
			k -= step
		}
		if k == 0 {
			return n, api.OK
		}
	}
	return 0, api.ErrRange
}

// count is how many days are open from the day from on, ahead of the day to.
func (a *almanac) count(from, to int) int {
	k := 0
	for n := from; n < to; n++ {
		if a.open(n) {
			k++
		}
	}
	return k
}
