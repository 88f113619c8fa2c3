package cal

import (
	"tenor/api"
	"tenor/date"
)

// What a rule's Move may be.
const (
	stay = iota
	moveOn
	moveNearest
)

const (
	monthsOfYear = 12
	leapYear     = 2000 // in it each month has as many days as it ever has
	lastOfMonth  = 5    // as an N
	farthest     = 100  // days from Easter Sunday, either way
)

// holiday is a rule of one of the kinds.
type holiday interface {
	// may tells whether the fields are such as the kind may have.
	may() bool
	// in is the day that the rule gives in the year y, ahead of its being moved.
	in(y int) (int, bool)
}

type (
	fixedHoliday   api.Rule
	nthHoliday     api.Rule
	easterHoliday  api.Rule
	singleHoliday  api.Rule
	unknownHoliday struct{}
)

func holidayOf(r api.Rule) holiday {
	switch r.Kind {
	case api.HFix:
		return fixedHoliday(r)
	case api.HNth:
		return nthHoliday(r)
	case api.HEaster:
		return easterHoliday(r)
	case api.HDay:
		return singleHoliday(r)
	}
	return unknownHoliday{}
}

func (h fixedHoliday) may() bool {
	named := fixedHoliday{Kind: h.Kind, Month: h.Month, Day: h.Day, From: h.From, To: h.To, Move: h.Move}
	longest, e := date.Length(leapYear, h.Month)
	return h == named && e == api.OK && isBetween(h.Day, 1, longest) && mayComeAgain(api.Rule(h))
}

func (h fixedHoliday) in(y int) (int, bool) {
	n, e := date.Of(y, h.Month, h.Day)
	return n, e == api.OK && isBetween(y, h.From, h.To)
}

func (h nthHoliday) may() bool {
	named := nthHoliday{Kind: h.Kind, Month: h.Month, Weekday: h.Weekday, N: h.N, From: h.From, To: h.To, Move: h.Move}
	return h == named && isBetween(h.Month, 1, monthsOfYear) && isBetween(h.Weekday, 0, daysOfWeek-1) && isBetween(h.N, 1, lastOfMonth) && mayComeAgain(api.Rule(h))
}

func (h nthHoliday) in(y int) (int, bool) {
	length, e := date.Length(y, h.Month)
	if e != api.OK || !isBetween(y, h.From, h.To) {
		return 0, false
	}
	first, _ := date.Of(y, h.Month, 1)
	toWeekday := (h.Weekday + daysOfWeek - first%daysOfWeek) % daysOfWeek
	n := first + toWeekday + daysOfWeek*(h.N-1)
	// A month that has no fifth one has the fourth as its last.
	if n >= first+length {
		n -= daysOfWeek
	}
	return n, true
}

func (h easterHoliday) may() bool {
	named := easterHoliday{Kind: h.Kind, Offset: h.Offset, From: h.From, To: h.To, Move: h.Move}
	return h == named && isBetween(h.Offset, -farthest, farthest) && mayComeAgain(api.Rule(h))
}

func (h easterHoliday) in(y int) (int, bool) {
	n, e := date.Easter(y)
	return n + h.Offset, e == api.OK && isBetween(y, h.From, h.To)
}

func (h singleHoliday) may() bool {
	return h == singleHoliday{Kind: h.Kind, Day: h.Day} && isDay(h.Day)
}

func (h singleHoliday) in(y int) (int, bool) {
	own, _, _, _ := date.Civil(h.Day)
	return h.Day, own == y
}

func (unknownHoliday) may() bool { return false }

func (unknownHoliday) in(int) (int, bool) { return 0, false }

// mayComeAgain tells whether the fields that all rules of many years have may be.
func mayComeAgain(r api.Rule) bool {
	return r.From >= api.FirstYear && r.From <= r.To && r.To <= api.LastYear && isBetween(r.Move, stay, moveNearest)
}

// moved is the day to which a holiday on the day n is moved. That may lie beyond the days that there are: there it is none.
func moved(n, move, weekend int) int {
	if move == stay {
		return n
	}
	for away := range daysOfWeek {
		if !isWeekend(weekend, n+away) {
			return n + away
		}
		if move == moveNearest && !isWeekend(weekend, n-away) {
			return n - away
		}
	}
	return n
}

// isWeekend tells whether Weekend has the weekday of n, which may lie up to a week ahead of the first day.
func isWeekend(weekend, n int) bool {
	return weekend>>((n+daysOfWeek)%daysOfWeek)&1 == 1
}
