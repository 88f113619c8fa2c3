package cal_test

import (
	"math"
	"slices"
	"testing"
	"time"

	"tenor/api"
	"tenor/cal"
	"tenor/date"
)

// scatter is splitmix64: the same numbers in every run.
func scatter(state *uint64) uint64 {
	*state += 0x9e3779b97f4a7c15
	z := *state
	z = (z ^ z>>30) * 0xbf58476d1ce4e5b9
	z = (z ^ z>>27) * 0x94d049bb133111eb
	return z ^ z>>31
}

// pick is one of least to greatest.
func pick(state *uint64, least, greatest int) int {
	return least + int(scatter(state)%uint64(greatest-least+1))
}

// noon is that date by the library's calendar.
func noon(y, m, d int) time.Time {
	return time.Date(y, time.Month(m), d, 12, 0, 0, 0, time.UTC)
}

// libraryDay is the day of that date by the library's calendar.
func libraryDay(y, m, d int) int {
	return int((noon(y, m, d).Unix() - noon(1900, 1, 1).Unix()) / 86400)
}

// isShut tells whether weekend has the weekday of n by the library's calendar, whether n is a day or not.
func isShut(weekend, n int) bool {
	sundayFirst := int(noon(1900, 1, 1+n).Weekday())
	return weekend>>((sundayFirst+6)%7)&1 == 1
}

// unmoved is the day that the rule gives in the year y ahead of its being moved, or -1.
func unmoved(r api.Rule, y int) int {
	switch r.Kind {
	case api.HFix:
		if noon(y, r.Month, r.Day).Day() == r.Day {
			return libraryDay(y, r.Month, r.Day)
		}
	case api.HNth:
		var such []int
		for d := 1; d <= 31 && noon(y, r.Month, d).Day() == d; d++ {
			if n := libraryDay(y, r.Month, d); isShut(1<<r.Weekday, n) {
				such = append(such, n)
			}
		}
		if r.N == 5 {
			return such[len(such)-1]
		}
		return such[r.N-1]
	case api.HEaster:
		n, _ := date.Easter(y)
		return n + r.Offset
	}
	return -1
}

// nearestOpen is where a holiday on the day n is moved to: of all days of the two weeks about it that may be the one that is nearest, or the later of two.
func nearestOpen(n, move, weekend int) int {
	if move == 0 || !isShut(weekend, n) {
		return n
	}
	best, way := 0, 100
	for m := n + 7; m >= n-7; m-- {
		away := max(m-n, n-m)
		if isShut(weekend, m) || move == 1 && m < n || away >= way {
			continue
		}
		best, way = m, away
	}
	return best
}

// marks is of each day whether a rule of the calendar gives it.
func marks(c api.Calendar) []bool {
	l := make([]bool, api.LastDay+1)
	for _, r := range c.Rules {
		if r.Kind == api.HDay {
			l[r.Day] = true
			continue
		}
		for y := r.From; y <= r.To; y++ {
			n := unmoved(r, y)
			if n < 0 {
				continue
			}
			if n = nearestOpen(n, r.Move, c.Weekend); n >= 0 && n <= api.LastDay {
				l[n] = true
			}
		}
	}
	return l
}

// openDays is all days that are open, in order: what days are moved to and counted by is a place in it.
func openDays(c api.Calendar, holidays []bool) []int {
	var l []int
	for n, is := range holidays {
		if !is && !isShut(c.Weekend, n) {
			l = append(l, n)
		}
	}
	return l
}

// someRule is a rule that may be.
func someRule(state *uint64) api.Rule {
	r := api.Rule{Kind: pick(state, api.HFix, api.HDay)}
	if r.Kind == api.HDay {
		r.Day = pick(state, 0, api.LastDay)
		return r
	}
	r.From = pick(state, 1900, 2199)
	r.To = pick(state, r.From, 2199)
	if pick(state, 0, 1) == 0 {
		r.From, r.To = 1900, 2199
	}
	r.Move = pick(state, 0, 2)
	switch r.Kind {
	case api.HFix:
		r.Month = pick(state, 1, 12)
		r.Day = pick(state, 1, noon(2000, r.Month+1, 0).Day())
	case api.HNth:
		r.Month, r.Weekday, r.N = pick(state, 1, 12), pick(state, 0, 6), pick(state, 1, 5)
	case api.HEaster:
		r.Offset = pick(state, -100, 100)
	}
	return r
}

func someCalendar(state *uint64, rules int) api.Calendar {
	c := api.Calendar{Weekend: pick(state, 0, 126)}
	for range rules {
		c.Rules = append(c.Rules, someRule(state))
	}
	return c
}

// closed is a calendar that has no open day: the one weekday that its Weekend lacks is a holiday each time.
func closed() api.Calendar {
	c := api.Calendar{Weekend: 126}
	for m := range 12 {
		for n := range 5 {
			c.Rules = append(c.Rules, api.Rule{Kind: api.HNth, Month: m + 1, N: n + 1, From: 1900, To: 2199})
		}
	}
	return c
}

// answer is what a call that tells a number and an error has to answer.
type answer struct {
	n int
	e api.Errno
}

// told makes an answer out of a call's results.
func told(n int, e api.Errno) answer { return answer{n, e} }

func good(n int) answer { return answer{n, api.OK} }

// verdict is what a call that tells yes or no and an error has to answer.
type verdict struct {
	is bool
	e  api.Errno
}

func said(is bool, e api.Errno) verdict { return verdict{is, e} }

var noRange = answer{0, api.ErrRange}

// at is the open day of that place, or none.
func at(open []int, place int) answer {
	if place < 0 || place >= len(open) {
		return noRange
	}
	return good(open[place])
}

// upTo is how many open days lie ahead of n.
func upTo(open []int, n int) int {
	place, _ := slices.BinarySearch(open, n)
	return place
}

func day(t *testing.T, s string) int {
	t.Helper()
	n, e := date.Parse(s)
	if e != api.OK {
		t.Fatalf("Parse(%s) answers %v", s, e)
	}
	return n
}

// chapters is the calendar of the chapter's examples.
func chapters() api.Calendar {
	return api.Calendar{Weekend: 96, Rules: []api.Rule{
		{Kind: api.HFix, Month: 1, Day: 1, From: 1900, To: 2199, Move: 1},
		{Kind: api.HEaster, Offset: -2, From: 1900, To: 2199},
		{Kind: api.HNth, Month: 11, Weekday: 3, N: 4, From: 1900, To: 2199},
	}}
}

// The chapter's examples.
func TestExamples(t *testing.T) {
	c := chapters()
	on := func(s string) int { return day(t, s) }
	for s, want := range map[string]bool{"2023-01-01": false, "2023-01-02": true, "2025-04-18": true, "2025-11-27": true} {
		if got := said(cal.Holiday(c, on(s))); got != (verdict{want, api.OK}) {
			t.Errorf("Holiday(%s) is %v", s, got)
		}
	}
	for s, want := range map[string]bool{"2023-01-02": false, "2023-01-03": true} {
		if got := said(cal.Open(c, on(s))); got != (verdict{want, api.OK}) {
			t.Errorf("Open(%s) is %v", s, got)
		}
	}
	for _, x := range []struct {
		name string
		got  answer
		want string
	}{
		{"CFollow", told(cal.Adjust(c, on("2025-08-31"), api.CFollow)), "2025-09-01"},
		{"CModFollow", told(cal.Adjust(c, on("2025-08-31"), api.CModFollow)), "2025-08-29"},
		{"CPrecede", told(cal.Adjust(c, on("2025-08-31"), api.CPrecede)), "2025-08-29"},
		{"one on", told(cal.Add(c, on("2025-04-17"), 1)), "2025-04-21"},
		{"none on", told(cal.Add(c, on("2025-04-17"), 0)), "2025-04-17"},
		{"one back", told(cal.Add(c, on("2025-04-22"), -1)), "2025-04-21"},
	} {
		if x.got != good(on(x.want)) {
			t.Errorf("%s: %v, not %s", x.name, x.got, x.want)
		}
	}
	if got := told(cal.Count(c, on("2025-04-14"), on("2025-04-21"))); got != good(4) {
		t.Errorf("Count is %v", got)
	}
	c.Weekend = 127
	if e, at := cal.Check(c); e != api.ErrCal || at != -1 {
		t.Errorf("Weekend 127: %v, %d", e, at)
	}
	c = chapters()
	c.Rules[1].Kind = 9
	if e, at := cal.Check(c); e != api.ErrCal || at != 1 {
		t.Errorf("Kind 9: %v, %d", e, at)
	}
}

func checkDay(t *testing.T, c api.Calendar, n int, isHoliday bool) {
	t.Helper()
	if got := said(cal.Holiday(c, n)); got != (verdict{isHoliday, api.OK}) {
		t.Fatalf("Holiday(%v, %d) is %v", c, n, got)
	}
	if got := said(cal.Open(c, n)); got != (verdict{!isHoliday && !isShut(c.Weekend, n), api.OK}) {
		t.Fatalf("Open(%v, %d) is %v", c, n, got)
	}
}

// Promises 6.1 and 6.3: of every day of the chapter's calendar, and of some of many calendars, those about holidays and years' ends among them.
func TestHolidayAndOpen(t *testing.T) {
	c := chapters()
	for n, is := range marks(c) {
		checkDay(t, c, n, is)
	}
	state := uint64(63)
	for i := range 60 {
		c := someCalendar(&state, i)
		holidays := marks(c)
		for n, is := range holidays {
			near := is || n > 0 && holidays[n-1] || n < api.LastDay && holidays[n+1] || n < 10 || n > api.LastDay-10
			if near && n%7 == i%7 || scatter(&state)%512 == 0 {
				checkDay(t, c, n, is)
			}
		}
	}
}

// Promise 6.3.
func TestHolidayAndOpenRefuse(t *testing.T) {
	for _, c := range []api.Calendar{{}, chapters(), closed()} {
		for _, n := range append([]int{-1, api.LastDay + 1}, farOff...) {
			if got := said(cal.Holiday(c, n)); got != (verdict{false, api.ErrRange}) {
				t.Errorf("Holiday(%d) is %v", n, got)
			}
			if got := said(cal.Open(c, n)); got != (verdict{false, api.ErrRange}) {
				t.Errorf("Open(%d) is %v", n, got)
			}
		}
	}
}

// Promise 6.2: whatever else is wrong, the calendar is told first.
func TestBadCalendarsFirst(t *testing.T) {
	for _, x := range []struct {
		c api.Calendar
		e api.Errno
	}{
		{api.Calendar{Weekend: 127}, api.ErrCal},
		{api.Calendar{Rules: []api.Rule{{Kind: 9}}}, api.ErrCal},
		{api.Calendar{Weekend: -1, Rules: make([]api.Rule, 65)}, api.ErrLong},
	} {
		for _, n := range []int{5, -1, api.LastDay + 1} {
			for _, got := range []answer{
				told(cal.Adjust(x.c, n, api.CNone)), told(cal.Adjust(x.c, n, api.CFollow)), told(cal.Adjust(x.c, n, 9)),
				told(cal.Add(x.c, n, 0)), told(cal.Add(x.c, n, 1)), told(cal.Count(x.c, n, 3)), told(cal.Count(x.c, 3, n)),
			} {
				if got != (answer{0, x.e}) {
					t.Errorf("%v of %d: %v", x.c, n, got)
				}
			}
			for _, got := range []verdict{said(cal.Holiday(x.c, n)), said(cal.Open(x.c, n))} {
				if got != (verdict{false, x.e}) {
					t.Errorf("%v of %d: %v", x.c, n, got)
				}
			}
		}
	}
}

// wantAdjust is what Adjust has to answer, by places among the open days.
func wantAdjust(open []int, n, way int) answer {
	next := at(open, upTo(open, n))
	last := at(open, upTo(open, n+1)-1)
	other := func(a, b answer) answer {
		from, to := noon(1900, 1, 1+n), noon(1900, 1, 1+a.n)
		if a.e != api.OK || from.Year() != to.Year() || from.Month() != to.Month() {
			return b
		}
		return a
	}
	switch way {
	case api.CFollow:
		return next
	case api.CPrecede:
		return last
	case api.CModFollow:
		return other(next, last)
	case api.CModPrecede:
		return other(last, next)
	}
	return good(n)
}

// checkAdjust holds Adjust against the open days, and to promise 6.7.
func checkAdjust(t *testing.T, c api.Calendar, open []int, n int) {
	t.Helper()
	isOpen := slices.Contains(open[upTo(open, n):upTo(open, n+1)], n)
	for way := api.CNone; way <= api.CModPrecede; way++ {
		got, want := told(cal.Adjust(c, n, way)), wantAdjust(open, n, way)
		if got != want {
			t.Fatalf("Adjust(%v, %d, %d) is %v, not %v", c, n, way, got, want)
		}
		if isOpen && got != good(n) {
			t.Fatalf("Adjust(%v, %d, %d) is %v, where the day is open", c, n, way, got)
		}
		if is, _ := cal.Open(c, got.n); way != api.CNone && got.e == api.OK && !is {
			t.Fatalf("Adjust(%v, %d, %d) is %v, which is not open", c, n, way, got)
		}
	}
}

// Promises 6.4 and 6.7.
func TestAdjust(t *testing.T) {
	state := uint64(64)
	for i := range 40 {
		c := someCalendar(&state, i)
		open := openDays(c, marks(c))
		for range 300 {
			checkAdjust(t, c, open, pick(&state, 0, api.LastDay))
		}
		for k := range 20 {
			checkAdjust(t, c, open, k)
			checkAdjust(t, c, open, api.LastDay-k)
			// Months' ends are where the ways differ.
			first := libraryDay(pick(&state, 1901, 2198), pick(&state, 1, 12), 1)
			checkAdjust(t, c, open, first)
			checkAdjust(t, c, open, first-1)
		}
	}
	c := closed()
	for _, n := range []int{0, 1, 45656, api.LastDay} {
		checkAdjust(t, c, nil, n)
	}
}

// Promise 6.4: ahead of the first open day, behind the last, and in a month that has none.
func TestAdjustAtTheEnds(t *testing.T) {
	mondays := api.Calendar{Weekend: 126}
	ends := api.Calendar{Rules: []api.Rule{{Kind: api.HDay, Day: 0}, {Kind: api.HDay, Day: api.LastDay}}}
	weeks := api.Calendar{Weekend: 126, Rules: []api.Rule{
		{Kind: api.HNth, Month: 6, N: 1, From: 2025, To: 2025}, {Kind: api.HNth, Month: 6, N: 2, From: 2025, To: 2025},
		{Kind: api.HNth, Month: 6, N: 3, From: 2025, To: 2025}, {Kind: api.HNth, Month: 6, N: 4, From: 2025, To: 2025},
		{Kind: api.HNth, Month: 6, N: 5, From: 2025, To: 2025},
	}}
	lastMonday := libraryDay(2199, 12, 30)
	inJune := libraryDay(2025, 6, 15)
	for _, x := range []struct {
		name   string
		c      api.Calendar
		n, way int
		want   answer
	}{
		{"behind the last one", mondays, api.LastDay, api.CFollow, noRange},
		{"behind the last one, modified", mondays, api.LastDay, api.CModFollow, good(lastMonday)},
		{"behind the last one, back", mondays, api.LastDay, api.CPrecede, good(lastMonday)},
		{"behind the last one, back, modified", mondays, api.LastDay, api.CModPrecede, good(lastMonday)},
		{"the last day, no way", mondays, api.LastDay, api.CNone, good(api.LastDay)},
		{"ahead of the first one", ends, 0, api.CFollow, good(1)},
		{"ahead of the first one, modified", ends, 0, api.CModFollow, good(1)},
		{"ahead of the first one, back", ends, 0, api.CPrecede, noRange},
		{"ahead of the first one, back, modified", ends, 0, api.CModPrecede, good(1)},
		{"the last day", ends, api.LastDay, api.CFollow, noRange},
		{"the last day, modified", ends, api.LastDay, api.CModFollow, good(api.LastDay - 1)},
		{"a month without one", weeks, inJune, api.CFollow, good(libraryDay(2025, 7, 7))},
		{"a month without one, modified", weeks, inJune, api.CModFollow, good(libraryDay(2025, 5, 26))},
		{"a month without one, back", weeks, inJune, api.CPrecede, good(libraryDay(2025, 5, 26))},
		{"a month without one, back, modified", weeks, inJune, api.CModPrecede, good(libraryDay(2025, 7, 7))},
	} {
		if got := told(cal.Adjust(x.c, x.n, x.way)); got != x.want {
			t.Errorf("%s: %v, not %v", x.name, got, x.want)
		}
	}
}

// Promise 6.4: the other month's day is in another month even where the month's number is the same.
func TestAdjustOverYears(t *testing.T) {
	c := api.Calendar{Weekend: 126}
	for y := 2024; y <= 2025; y++ {
		for m := range 12 {
			for n := range 5 {
				c.Rules = append(c.Rules, api.Rule{Kind: api.HNth, Month: m + 1, N: n + 1, From: y, To: y})
			}
		}
	}
	// Of the two years' rules those of the months that matter: from 2024-06-01 to 2025-05-31 all is shut.
	c.Rules = slices.DeleteFunc(c.Rules, func(r api.Rule) bool { return r.From == 2024 && r.Month < 6 || r.From == 2025 && r.Month > 5 })
	june := libraryDay(2024, 6, 10)
	if got, want := told(cal.Adjust(c, june, api.CFollow)), good(libraryDay(2025, 6, 2)); got != want {
		t.Errorf("CFollow is %v, not %v", got, want)
	}
	if got, want := told(cal.Adjust(c, june, api.CModFollow)), good(libraryDay(2024, 5, 27)); got != want {
		t.Errorf("CModFollow is %v, not %v", got, want)
	}
}

// Promise 6.4: the way is asked ahead of the day.
func TestAdjustRefuses(t *testing.T) {
	c := chapters()
	for _, n := range append([]int{-1, api.LastDay + 1}, farOff...) {
		for way := api.CNone; way <= api.CModPrecede; way++ {
			if got := told(cal.Adjust(c, n, way)); got != noRange {
				t.Errorf("Adjust(%d, %d) is %v", n, way, got)
			}
		}
	}
	for _, way := range append([]int{-1, 5}, farOff...) {
		for _, n := range []int{0, 45656, -1, api.LastDay + 1} {
			if got := told(cal.Adjust(c, n, way)); got != (answer{0, api.ErrKind}) {
				t.Errorf("Adjust(%d, %d) is %v", n, way, got)
			}
		}
	}
}

// wantAdd is what Add has to answer, by places among the open days; k is no greater than their number, or it is not added to a place.
func wantAdd(open []int, n, k int) answer {
	switch {
	case k > len(open) || k < -len(open):
		return noRange
	case k > 0:
		return at(open, upTo(open, n+1)+k-1)
	case k < 0:
		return at(open, upTo(open, n)+k)
	}
	return at(open, upTo(open, n))
}

func checkAdd(t *testing.T, c api.Calendar, open []int, n, k int) {
	t.Helper()
	if got, want := told(cal.Add(c, n, k)), wantAdd(open, n, k); got != want {
		t.Fatalf("Add(%v, %d, %d) is %v, not %v", c, n, k, got, want)
	}
}

// Promise 6.5.
func TestAdd(t *testing.T) {
	state := uint64(65)
	for i := range 30 {
		c := someCalendar(&state, i)
		open := openDays(c, marks(c))
		for range 100 {
			n := pick(&state, 0, api.LastDay)
			for k := -3; k <= 3; k++ {
				checkAdd(t, c, open, n, k)
			}
			checkAdd(t, c, open, n, pick(&state, -600, 600))
		}
		for range 5 {
			n := pick(&state, 0, api.LastDay)
			back, on := upTo(open, n), len(open)-upTo(open, n+1)
			for _, k := range []int{on, on + 1, -back, -back - 1, pick(&state, -api.LastDay, api.LastDay)} {
				checkAdd(t, c, open, n, k)
			}
		}
	}
}

// Promise 6.5: both ends, where every day is open and where none is, and every int as k.
func TestAddAtTheEnds(t *testing.T) {
	for _, x := range []struct {
		n, k int
		want answer
	}{
		{0, api.LastDay, good(api.LastDay)},
		{0, api.LastDay + 1, noRange},
		{api.LastDay, -api.LastDay, good(0)},
		{api.LastDay, -api.LastDay - 1, noRange},
		{api.LastDay, 1, noRange},
		{api.LastDay, 0, good(api.LastDay)},
		{0, -1, noRange},
		{0, 0, good(0)},
		{1, -1, good(0)},
		{0, math.MaxInt, noRange},
		{0, math.MinInt, noRange},
		{api.LastDay, math.MaxInt, noRange},
		{api.LastDay, math.MinInt, noRange},
		{50000, 1 << 32, noRange},
		{50000, -1 << 32, noRange},
	} {
		if got := told(cal.Add(api.Calendar{}, x.n, x.k)); got != x.want {
			t.Errorf("Add(%d, %d) is %v, not %v", x.n, x.k, got, x.want)
		}
		if got := told(cal.Add(closed(), x.n, x.k)); got != noRange {
			t.Errorf("Add(%d, %d) is %v, where no day is open", x.n, x.k, got)
		}
	}
	for _, n := range append([]int{-1, api.LastDay + 1}, farOff...) {
		for _, k := range []int{0, 1, -1, math.MaxInt, math.MinInt} {
			if got := told(cal.Add(chapters(), n, k)); got != noRange {
				t.Errorf("Add(%d, %d) is %v", n, k, got)
			}
		}
	}
}

// Promise 6.5.
func TestCount(t *testing.T) {
	state := uint64(650)
	for i := range 30 {
		c := someCalendar(&state, i)
		open := openDays(c, marks(c))
		for k := range 60 {
			a, b := pick(&state, 0, api.LastDay), pick(&state, 0, api.LastDay)
			if k > 20 {
				b = min(a+pick(&state, 0, 40), api.LastDay)
			}
			want := upTo(open, b) - upTo(open, a)
			if got := told(cal.Count(c, a, b)); got != good(want) {
				t.Fatalf("Count(%v, %d, %d) is %v, not %d", c, a, b, got, want)
			}
			if got := told(cal.Count(c, b, a)); got != good(-want) {
				t.Fatalf("Count(%v, %d, %d) is %v, not %d", c, b, a, got, -want)
			}
		}
	}
	for _, x := range []struct{ a, b, want int }{{0, api.LastDay, api.LastDay}, {api.LastDay, 0, -api.LastDay}, {7, 7, 0}, {7, 8, 1}, {8, 7, -1}} {
		if got := told(cal.Count(api.Calendar{}, x.a, x.b)); got != good(x.want) {
			t.Errorf("Count(%d, %d) is %v, not %d", x.a, x.b, got, x.want)
		}
		if got := told(cal.Count(closed(), x.a, x.b)); got != good(0) {
			t.Errorf("Count(%d, %d) is %v, where no day is open", x.a, x.b, got)
		}
	}
	for _, n := range append([]int{-1, api.LastDay + 1}, farOff...) {
		for _, got := range []answer{told(cal.Count(chapters(), n, 5)), told(cal.Count(chapters(), 5, n)), told(cal.Count(chapters(), n, n))} {
			if got != noRange {
				t.Errorf("Count with %d is %v", n, got)
			}
		}
	}
}

// Promise 6.8.
func TestAddsUp(t *testing.T) {
	state := uint64(68)
	for i := range 40 {
		c := someCalendar(&state, i)
		for range 20 {
			n, j, k := pick(&state, 0, api.LastDay), pick(&state, 1, 40), pick(&state, 1, 40)
			far := told(cal.Add(c, n, j+k))
			if far.e == api.OK {
				half := told(cal.Add(c, n, j))
				if got := told(cal.Add(c, half.n, k)); half.e != api.OK || got != far {
					t.Fatalf("%v: from %d %d and %d on is %v, not %v", c, n, j, k, got, far)
				}
			}
			if is, _ := cal.Open(c, n); is && far.e == api.OK {
				if got := told(cal.Count(c, n, far.n)); got != good(j+k) {
					t.Fatalf("%v: from %d to %v there are %v, not %d", c, n, far, got, j+k)
				}
			}
			a, b, d := pick(&state, 0, api.LastDay), pick(&state, 0, api.LastDay), pick(&state, 0, api.LastDay)
			first, second, both := told(cal.Count(c, a, b)), told(cal.Count(c, b, d)), told(cal.Count(c, a, d))
			if first.e != api.OK || second.e != api.OK || both != good(first.n+second.n) {
				t.Fatalf("%v: from %d over %d to %d there are %v, %v, and %v", c, a, b, d, first, second, both)
			}
		}
	}
}
