package sched_test

import (
	"math"
	"math/big"
	"reflect"
	"slices"
	"testing"
	"time"

	"tenor/api"
	"tenor/cal"
	"tenor/date"
	"tenor/sched"
)

// scatter is splitmix64: the same numbers in every run.
func scatter(state *uint64) uint64 {
	*state += 0x9e3779b97f4a7c15
	z := *state
	z = (z ^ z>>30) * 0xbf58476d1ce4e5b9
	z = (z ^ z>>27) * 0x94d049bb133111eb
	return z ^ z>>31
}

// pick is one of least to greatest.
func pick(state *uint64, least, greatest int) int {
	return least + int(scatter(state)%uint64(greatest-least+1))
}

// farOff is numbers that are neither days nor any kind.
func farOff() []int {
	return []int{math.MinInt, math.MinInt + 1, -1 << 32, -1, api.LastDay + 1, 1 << 32, math.MaxInt}
}

func day(t *testing.T, s string) int {
	t.Helper()
	n, e := date.Parse(s)
	if e != api.OK {
		t.Fatalf("Parse(%s) answers %v", s, e)
	}
	return n
}

// texts is the texts of the days.
func texts(days []int) []string {
	var list []string
	for _, n := range days {
		s, _ := date.Print(n)
		list = append(list, s)
	}
	return list
}

// market is a calendar with a weekend and a rule of each kind.
func market() api.Calendar {
	return api.Calendar{Weekend: 96, Rules: []api.Rule{
		{Kind: api.HFix, Month: 1, Day: 1, From: 1900, To: 2199, Move: 1},
		{Kind: api.HEaster, Offset: -2, From: 1900, To: 2199},
		{Kind: api.HNth, Month: 11, Weekday: 3, N: 4, From: 1950, To: 2150},
		{Kind: api.HDay, Day: 45000},
	}}
}

// quarters is the schedule of the chapter's examples.
func quarters(t *testing.T, end string, stub int) api.Spec {
	t.Helper()
	return api.Spec{Start: day(t, "2025-01-15"), End: day(t, end), N: 3, Unit: api.UMonth, Stub: stub}
}

// stubs is all stubs.
func stubs() []int {
	return []int{api.SShortFirst, api.SLongFirst, api.SShortLast, api.SLongLast}
}

// someSpec is a schedule that may be; many have no stub, and some lie at the first day or the last.
func someSpec(state *uint64) api.Spec {
	s := api.Spec{Unit: pick(state, api.UDay, api.UYear), Stub: pick(state, api.SShortFirst, api.SLongLast)}
	s.Conv, s.Lag, s.Cal = pick(state, api.CNone, api.CModPrecede), max(pick(state, -20, api.MaxLag), 0), market()
	about := []int{1, 7, 30, 365}[s.Unit-1]
	s.N = pick(state, 1, []int{40, 20, 13, 3}[s.Unit-1])
	if s.Unit > api.UWeek {
		s.Roll = pick(state, api.RNone, api.RThird)
	}
	long := pick(state, 0, 20)*s.N*about + pick(state, 0, 1)*pick(state, 0, s.N*about)
	long = min(max(long, 1), api.LastDay)
	switch pick(state, 0, 9) {
	case 0:
		s.Start = pick(state, 0, min(3, api.LastDay-long))
	case 1:
		s.Start = api.LastDay - long - pick(state, 0, min(3, api.LastDay-long))
	default:
		s.Start = pick(state, 0, api.LastDay-long)
	}
	s.End = s.Start + long
	if s.Unit > api.UWeek && pick(state, 0, 1) == 0 {
		if n, ok := point(s, s.Start, pick(state, 1, 20)); ok && n > s.Start {
			s.End = n
		}
	}
	return s
}

// libraryDay is the day of a time of the library's calendar.
func libraryDay(d time.Time) int {
	const ofDay = 24 * 60 * 60
	return int(d.Unix()-time.Date(1900, 1, 1, 0, 0, 0, 0, time.UTC).Unix()) / ofDay
}

// third is the third Wednesday of the month.
func third(y int, m time.Month) time.Time {
	d := time.Date(y, m, 1, 12, 0, 0, 0, time.UTC)
	for seen := 0; ; d = d.AddDate(0, 0, 1) {
		if d.Weekday() == time.Wednesday {
			seen++
		}
		if seen == 3 {
			return d
		}
	}
}

// point is Point by the chapter's words and the library's calendar, of a schedule that may be.
func point(s api.Spec, anchor, k int) (int, bool) {
	if anchor < 0 || anchor > api.LastDay {
		return 0, false
	}
	size := []int64{1, 7, 1, 12}[s.Unit-1]
	exact := new(big.Int).Mul(big.NewInt(int64(k)), big.NewInt(int64(s.N)))
	exact.Mul(exact, big.NewInt(size))
	if exact.CmpAbs(big.NewInt(api.LastDay)) > 0 {
		return 0, false
	}
	on := int(exact.Int64())
	if s.Unit <= api.UWeek {
		if anchor+on < 0 || anchor+on > api.LastDay {
			return 0, false
		}
		return anchor + on, true
	}
	from := time.Date(1900, 1, 1+anchor, 12, 0, 0, 0, time.UTC)
	first := time.Date(from.Year(), from.Month()+time.Month(on), 1, 12, 0, 0, 0, time.UTC)
	if first.Year() < 1900 || first.Year() > 2199 {
		return 0, false
	}
	last := first.AddDate(0, 1, -1)
	switch {
	case s.Roll == api.RThird:
		return libraryDay(third(first.Year(), first.Month())), true
	case s.Roll == api.REnd || from.Day() > last.Day():
		return libraryDay(last), true
	}
	return libraryDay(first) + from.Day() - 1, true
}

// cuts is Dates by the chapter's words, of a schedule that may be.
func cuts(s api.Spec) ([]int, api.Errno) {
	inner := []int{}
	if s.Stub == api.SShortFirst || s.Stub == api.SLongFirst {
		n, ok := point(s, s.End, -1)
		for k := 2; ok && n > s.Start; k++ {
			inner = slices.Insert(inner, 0, n)
			n, ok = point(s, s.End, -k)
		}
		if len(inner)+1 > 1200 {
			return nil, api.ErrMany
		}
		if s.Stub == api.SLongFirst && (!ok || n != s.Start) && len(inner) > 0 {
			inner = inner[1:]
		}
	} else {
		n, ok := point(s, s.Start, 1)
		for k := 2; ok && n < s.End; k++ {
			inner = append(inner, n)
			n, ok = point(s, s.Start, k)
		}
		if len(inner)+1 > 1200 {
			return nil, api.ErrMany
		}
		if s.Stub == api.SLongLast && (!ok || n != s.End) && len(inner) > 0 {
			inner = inner[:len(inner)-1]
		}
	}
	return append(append([]int{s.Start}, inner...), s.End), api.OK
}

// Promise 8.3: the chapter's examples.
func TestExamples(t *testing.T) {
	for _, x := range []struct {
		end        string
		stub, roll int
		want       []string
	}{
		{"2025-07-15", api.SShortFirst, api.RNone, []string{"2025-01-15", "2025-04-15", "2025-07-15"}},
		{"2025-07-15", api.SLongFirst, api.RNone, []string{"2025-01-15", "2025-04-15", "2025-07-15"}},
		{"2025-07-15", api.SShortLast, api.RNone, []string{"2025-01-15", "2025-04-15", "2025-07-15"}},
		{"2025-07-15", api.SLongLast, api.RNone, []string{"2025-01-15", "2025-04-15", "2025-07-15"}},
		{"2025-08-31", api.SShortFirst, api.RNone, []string{"2025-01-15", "2025-02-28", "2025-05-31", "2025-08-31"}},
		{"2025-08-31", api.SLongFirst, api.RNone, []string{"2025-01-15", "2025-05-31", "2025-08-31"}},
		{"2025-08-31", api.SShortLast, api.RNone, []string{"2025-01-15", "2025-04-15", "2025-07-15", "2025-08-31"}},
		{"2025-08-31", api.SLongLast, api.RNone, []string{"2025-01-15", "2025-04-15", "2025-08-31"}},
		{"2025-08-20", api.SShortFirst, api.REnd, []string{"2025-01-15", "2025-02-28", "2025-05-31", "2025-08-20"}},
		{"2025-02-01", api.SLongFirst, api.RNone, []string{"2025-01-15", "2025-02-01"}},
	} {
		s := quarters(t, x.end, x.stub)
		s.Roll = x.roll
		if l, e := sched.Dates(s); e != api.OK || !slices.Equal(texts(l), x.want) {
			t.Errorf("to %s, stub %d, roll %d: %v, %v, not %v", x.end, x.stub, x.roll, texts(l), e, x.want)
		}
	}
}

// Promise 8.3: the edges of its words: rolls that meet an end or miss it, points that are none, schedules of one period.
func TestEdgesOfDates(t *testing.T) {
	for _, x := range []struct {
		start, end          string
		n, unit, stub, roll int
		want                []string
	}{
		{"2025-02-28", "2025-08-20", 3, api.UMonth, api.SLongFirst, api.REnd, []string{"2025-02-28", "2025-05-31", "2025-08-20"}},
		{"2025-01-15", "2025-03-20", 1, api.UMonth, api.SShortFirst, api.REnd, []string{"2025-01-15", "2025-01-31", "2025-02-28", "2025-03-20"}},
		{"2025-01-15", "2025-03-20", 1, api.UMonth, api.SLongFirst, api.REnd, []string{"2025-01-15", "2025-02-28", "2025-03-20"}},
		{"2025-01-15", "2025-03-31", 1, api.UMonth, api.SLongLast, api.REnd, []string{"2025-01-15", "2025-02-28", "2025-03-31"}},
		{"2025-01-15", "2025-03-30", 1, api.UMonth, api.SShortLast, api.REnd, []string{"2025-01-15", "2025-02-28", "2025-03-30"}},
		{"2025-01-15", "2025-03-30", 1, api.UMonth, api.SLongLast, api.REnd, []string{"2025-01-15", "2025-03-30"}},
		{"2025-01-15", "2025-06-20", 1, api.UMonth, api.SShortFirst, api.RThird, []string{"2025-01-15", "2025-02-19", "2025-03-19", "2025-04-16", "2025-05-21", "2025-06-20"}},
		{"2025-01-16", "2025-04-16", 1, api.UMonth, api.SLongLast, api.RThird, []string{"2025-01-16", "2025-02-19", "2025-03-19", "2025-04-16"}},
		{"2024-02-29", "2028-02-29", 1, api.UYear, api.SLongLast, api.RNone, []string{"2024-02-29", "2025-02-28", "2026-02-28", "2027-02-28", "2028-02-29"}},
		{"2024-02-29", "2027-02-28", 1, api.UYear, api.SShortFirst, api.RNone, []string{"2024-02-29", "2025-02-28", "2026-02-28", "2027-02-28"}},
		{"2024-02-29", "2027-02-28", 1, api.UYear, api.SLongFirst, api.RNone, []string{"2024-02-29", "2026-02-28", "2027-02-28"}},
		{"2025-01-31", "2025-04-30", 1, api.UMonth, api.SShortLast, api.RNone, []string{"2025-01-31", "2025-02-28", "2025-03-31", "2025-04-30"}},
		{"2025-01-31", "2025-04-30", 1, api.UMonth, api.SShortFirst, api.RNone, []string{"2025-01-31", "2025-02-28", "2025-03-30", "2025-04-30"}},
		{"1900-01-01", "1900-03-15", 1, api.UMonth, api.SShortFirst, api.RNone, []string{"1900-01-01", "1900-01-15", "1900-02-15", "1900-03-15"}},
		{"1900-01-01", "1900-03-15", 1, api.UMonth, api.SLongFirst, api.RNone, []string{"1900-01-01", "1900-02-15", "1900-03-15"}},
		{"2199-10-15", "2199-12-31", 1, api.UMonth, api.SShortLast, api.RNone, []string{"2199-10-15", "2199-11-15", "2199-12-15", "2199-12-31"}},
		{"2199-10-15", "2199-12-31", 1, api.UMonth, api.SLongLast, api.RNone, []string{"2199-10-15", "2199-11-15", "2199-12-31"}},
		{"1900-01-01", "1900-01-04", 2, api.UDay, api.SLongFirst, api.RNone, []string{"1900-01-01", "1900-01-04"}},
		{"1900-01-01", "1900-01-16", 1, api.UWeek, api.SShortFirst, api.RNone, []string{"1900-01-01", "1900-01-02", "1900-01-09", "1900-01-16"}},
		{"2199-12-20", "2199-12-31", 1, api.UWeek, api.SLongLast, api.RNone, []string{"2199-12-20", "2199-12-31"}},
		{"2199-12-30", "2199-12-31", 1200, api.UYear, api.SLongLast, api.REnd, []string{"2199-12-30", "2199-12-31"}},
		{"1900-01-01", "1900-01-02", 1200, api.UYear, api.SLongFirst, api.RThird, []string{"1900-01-01", "1900-01-02"}},
		{"2025-01-15", "2025-01-31", 1, api.UMonth, api.SLongLast, api.REnd, []string{"2025-01-15", "2025-01-31"}},
	} {
		s := api.Spec{Start: day(t, x.start), End: day(t, x.end), N: x.n, Unit: x.unit, Stub: x.stub, Roll: x.roll}
		if l, e := sched.Dates(s); e != api.OK || !slices.Equal(texts(l), x.want) {
			t.Errorf("%v: %v, %v", x, texts(l), e)
		}
	}
}

// Promise 8.2: points of scattered schedules, held against the library's calendar.
func TestPointsOfScatteredDays(t *testing.T) {
	state := uint64(82)
	for range 20000 {
		s := someSpec(&state)
		s.N = pick(&state, 1, []int{1200, 40, 3}[pick(&state, 0, 2)])
		anchor, k := pick(&state, 0, api.LastDay), pick(&state, -60, 60)
		n, ok := sched.Point(s, anchor, k)
		if want, is := point(s, anchor, k); n != want || ok != is {
			t.Fatalf("Point(%v, %d, %d) = %d, %v, not %d, %v", s, anchor, k, n, ok, want, is)
		}
	}
}

// Promise 8.2: no step leads to the anchor itself, or to the roll's day of its month.
func TestNoSteps(t *testing.T) {
	at := day(t, "2025-02-10")
	for _, x := range []struct {
		unit, roll int
		want       string
	}{
		{api.UDay, api.RNone, "2025-02-10"},
		{api.UWeek, api.RNone, "2025-02-10"},
		{api.UMonth, api.RNone, "2025-02-10"},
		{api.UMonth, api.REnd, "2025-02-28"},
		{api.UYear, api.REnd, "2025-02-28"},
		{api.UYear, api.RThird, "2025-02-19"},
	} {
		s := api.Spec{Start: 0, End: 1, N: 7, Unit: x.unit, Stub: api.SShortFirst, Roll: x.roll}
		if n, ok := sched.Point(s, at, 0); n != day(t, x.want) || !ok {
			t.Errorf("unit %d, roll %d: %d, %v, not %s", x.unit, x.roll, n, ok, x.want)
		}
	}
}

// Promise 8.2: the last steps that lead to a day, and the first that do not; the anchor need not lie in the schedule.
func TestLastPoints(t *testing.T) {
	for _, x := range []struct {
		n, unit, roll, anchor, k, want int
		ok                             bool
	}{
		{1, api.UDay, 0, 0, api.LastDay, api.LastDay, true},
		{1, api.UDay, 0, 0, api.LastDay + 1, 0, false},
		{1, api.UDay, 0, api.LastDay, -api.LastDay, 0, true},
		{1, api.UDay, 0, api.LastDay, -api.LastDay - 1, 0, false},
		{1, api.UDay, 0, 1, api.LastDay, 0, false},
		{3, api.UWeek, 0, 15, 5217, api.LastDay, true},
		{3, api.UWeek, 0, 16, 5217, 0, false},
		{1, api.UWeek, 0, 0, 15653, 109571, true},
		{1, api.UWeek, 0, 2, 15653, 0, false},
		{1, api.UWeek, 0, 7, -1, 0, true},
		{1, api.UWeek, 0, 6, -1, 0, false},
		{1, api.UMonth, api.REnd, 0, 3599, api.LastDay, true},
		{1, api.UMonth, api.REnd, 0, 3600, 0, false},
		{1, api.UMonth, api.RNone, api.LastDay, -3599, 30, true},
		{1, api.UMonth, api.RThird, api.LastDay, -3599, 16, true},
		{1, api.UMonth, api.RThird, api.LastDay, -3600, 0, false},
		{299, api.UYear, api.RNone, 0, 1, 109208, true},
		{300, api.UYear, api.RNone, 0, 1, 0, false},
		{1200, api.UYear, api.REnd, 0, 0, 30, true},
	} {
		s := api.Spec{Start: 5, End: 6, N: x.n, Unit: x.unit, Stub: api.SShortFirst, Roll: x.roll}
		if n, ok := sched.Point(s, x.anchor, x.k); n != x.want || ok != x.ok {
			t.Errorf("%v: %d, %v", x, n, ok)
		}
	}
}

// Promise 8.2: no number of steps is too great to be asked for, and none comes round to a day; an anchor that is no day has no points.
func TestPointsFarOff(t *testing.T) {
	far := append(farOff(), 1<<62, -1<<62, 1<<61, -1<<61, 1<<60, 1<<54, -1<<54, 1<<31, math.MaxInt/12, math.MaxInt/7+1, math.MinInt/12, math.MinInt/8400)
	for unit := api.UDay; unit <= api.UYear; unit++ {
		for _, n := range []int{1, 2, 8, 1024, 1200} {
			s := api.Spec{Start: 0, End: 1, N: n, Unit: unit, Stub: api.SLongLast}
			for _, k := range far {
				for _, anchor := range []int{0, 45656, api.LastDay} {
					got, ok := sched.Point(s, anchor, k)
					if want, is := point(s, anchor, k); got != want || ok != is {
						t.Errorf("unit %d, N %d: Point(%d, %d) = %d, %v, not %d, %v", unit, n, anchor, k, got, ok, want, is)
					}
				}
				for _, steps := range []int{0, 1, -1, k} {
					if got, ok := sched.Point(s, k, steps); got != 0 || ok {
						t.Errorf("unit %d, N %d: Point(%d, %d) = %d, %v", unit, n, k, steps, got, ok)
					}
				}
			}
		}
	}
}

// Promises 8.3 and 8.5.
func TestDatesOfScatteredSchedules(t *testing.T) {
	state := uint64(83)
	for range 20000 {
		s := someSpec(&state)
		l, e := sched.Dates(s)
		if want, err := cuts(s); e != err || !slices.Equal(l, want) {
			t.Fatalf("Dates(%v) = %v, %v, not %v, %v", s, l, e, want, err)
		}
		if l[0] != s.Start || l[len(l)-1] != s.End {
			t.Fatalf("Dates(%v) = %v: not from Start to End", s, l)
		}
		for i := range len(l) - 1 {
			if l[i] >= l[i+1] {
				t.Fatalf("Dates(%v) = %v: they do not rise", s, l)
			}
		}
	}
}

// Promise 8.3: as many periods as there may be, and one more, with a stub and without; the one that a long stub leaves out counts.
func TestManyPeriods(t *testing.T) {
	for _, x := range []struct {
		n, unit, long int
		short         int // periods that a short stub makes
		longer        int // and a long one; 0: none, for there would be too many
	}{
		{1, api.UDay, 1200, 1200, 1200},
		{1, api.UDay, 1201, 0, 0},
		{2, api.UDay, 2400, 1200, 1200},
		{2, api.UDay, 2399, 1200, 1199},
		{2, api.UDay, 2401, 0, 0},
		{3, api.UDay, 3600, 1200, 1200},
		{3, api.UDay, 3602, 0, 0},
		{1, api.UWeek, 8400, 1200, 1200},
		{1, api.UWeek, 8401, 0, 0},
		{1, api.UWeek, 8399, 1200, 1199},
		{1, api.UDay, api.LastDay, 0, 0},
	} {
		for _, stub := range stubs() {
			s := api.Spec{Start: 0, End: x.long, N: x.n, Unit: x.unit, Stub: stub}
			want := x.short
			if stub == api.SLongFirst || stub == api.SLongLast {
				want = x.longer
			}
			l, e := sched.Dates(s)
			p, err := sched.Periods(s)
			if want == 0 {
				if l != nil || e != api.ErrMany || p != nil || err != api.ErrMany {
					t.Errorf("%v, stub %d: %d days, %v; %d periods, %v", x, stub, len(l), e, len(p), err)
				}
			} else if len(l) != want+1 || e != api.OK || len(p) != want || err != api.OK {
				t.Errorf("%v, stub %d: %d days, %v; %d periods, %v, not %d", x, stub, len(l), e, len(p), err, want)
			}
		}
	}
	// A hundred years of months, and a day more.
	for _, roll := range []int{api.RNone, api.REnd, api.RThird} {
		for _, stub := range stubs() {
			s := api.Spec{Start: day(t, "2000-01-20"), End: day(t, "2100-01-20"), N: 1, Unit: api.UMonth, Stub: stub, Roll: roll}
			for range 40 {
				s.End++
				l, e := sched.Dates(s)
				if want, err := cuts(s); e != err || !slices.Equal(l, want) {
					t.Errorf("roll %d, stub %d, to %d: %d days, %v, not %d, %v", roll, stub, s.End, len(l), e, len(want), err)
				}
			}
		}
	}
}

// Promise 8.1: what may not be.
func TestRefusals(t *testing.T) {
	good := api.Spec{Start: 100, End: 900, N: 2, Unit: api.UMonth, Stub: api.SShortLast, Roll: api.REnd, Conv: api.CFollow, Lag: 2, Cal: market()}
	refuse := func(change func(*api.Spec), want api.Errno) {
		t.Helper()
		s := good
		change(&s)
		if e := sched.Check(s); e != want {
			t.Errorf("Check(%v) = %v, not %v", s, e, want)
		}
		n, ok := sched.Point(s, 45656, 1)
		if ok != (want == api.OK) || !ok && n != 0 {
			t.Errorf("Point(%v) = %d, %v", s, n, ok)
		}
		if l, e := sched.Dates(s); e != want || (l != nil) != (want == api.OK) {
			t.Errorf("Dates(%v) = %v, %v, not %v", s, l, e, want)
		}
		if l, e := sched.Periods(s); e != want || (l != nil) != (want == api.OK) {
			t.Errorf("Periods(%v) = %v, %v, not %v", s, l, e, want)
		}
	}
	refuse(func(s *api.Spec) {}, api.OK)
	for _, n := range farOff() {
		refuse(func(s *api.Spec) { s.Start = n }, api.ErrRange)
		refuse(func(s *api.Spec) { s.End = n }, api.ErrRange)
		refuse(func(s *api.Spec) { s.N = n }, api.ErrSpec)
		refuse(func(s *api.Spec) { s.Unit, s.Roll = n, api.RNone }, api.ErrSpec)
		refuse(func(s *api.Spec) { s.Stub = n }, api.ErrSpec)
		refuse(func(s *api.Spec) { s.Roll = n }, api.ErrSpec)
		refuse(func(s *api.Spec) { s.Conv = n }, api.ErrSpec)
		refuse(func(s *api.Spec) { s.Lag = n }, api.ErrSpec)
		refuse(func(s *api.Spec) { s.Cal.Weekend = n }, api.ErrCal)
	}
	refuse(func(s *api.Spec) { s.Start = 900 }, api.ErrSpec)
	refuse(func(s *api.Spec) { s.Start = 901 }, api.ErrSpec)
	refuse(func(s *api.Spec) { s.Start = 899 }, api.OK)
	refuse(func(s *api.Spec) { s.Start = 0 }, api.OK)
	refuse(func(s *api.Spec) { s.End, s.Start, s.Conv, s.Lag = api.LastDay, api.LastDay-1, api.CNone, 0 }, api.OK)
	refuse(func(s *api.Spec) { s.N = 0 }, api.ErrSpec)
	refuse(func(s *api.Spec) { s.N = 1 }, api.OK)
	refuse(func(s *api.Spec) { s.N = 1200 }, api.OK)
	refuse(func(s *api.Spec) { s.N = 1201 }, api.ErrSpec)
	refuse(func(s *api.Spec) { s.Unit, s.Roll = 0, api.RNone }, api.ErrSpec)
	refuse(func(s *api.Spec) { s.Unit, s.Roll = api.UYear+1, api.RNone }, api.ErrSpec)
	refuse(func(s *api.Spec) { s.Stub = 0 }, api.ErrSpec)
	refuse(func(s *api.Spec) { s.Stub = api.SLongLast + 1 }, api.ErrSpec)
	refuse(func(s *api.Spec) { s.Roll = api.RThird + 1 }, api.ErrSpec)
	refuse(func(s *api.Spec) { s.Conv = api.CModPrecede + 1 }, api.ErrSpec)
	refuse(func(s *api.Spec) { s.Lag = 0 }, api.OK)
	refuse(func(s *api.Spec) { s.Lag = 30 }, api.OK)
	refuse(func(s *api.Spec) { s.Lag = 31 }, api.ErrSpec)
	refuse(func(s *api.Spec) { s.Cal.Weekend = 127 }, api.ErrCal)
	refuse(func(s *api.Spec) { s.Cal.Weekend = 126 }, api.OK)
	refuse(func(s *api.Spec) { s.Cal.Rules = []api.Rule{{Kind: 9}} }, api.ErrCal)
	refuse(func(s *api.Spec) { s.Cal.Rules = make([]api.Rule, api.MaxRules+1) }, api.ErrLong)
	refuse(func(s *api.Spec) { s.Cal = api.Calendar{} }, api.OK)
	for unit := api.UDay; unit <= api.UYear; unit++ {
		for roll := api.RNone; roll <= api.RThird; roll++ {
			want := api.OK
			if roll != api.RNone && unit <= api.UWeek {
				want = api.ErrSpec
			}
			refuse(func(s *api.Spec) { s.Unit, s.Roll = unit, roll }, want)
		}
	}
	for _, stub := range stubs() {
		refuse(func(s *api.Spec) { s.Stub = stub }, api.OK)
	}
	for conv := api.CNone; conv <= api.CModPrecede; conv++ {
		refuse(func(s *api.Spec) { s.Conv = conv }, api.OK)
	}
}

// Promise 8.1: of several errors the days' comes first, the calendar's last; all of them ahead of what is reckoned.
func TestWhichErrorFirst(t *testing.T) {
	for _, x := range []struct {
		s    api.Spec
		want api.Errno
	}{
		{api.Spec{Start: -1, End: -1, Cal: api.Calendar{Weekend: 127}}, api.ErrRange},
		{api.Spec{Start: 5, End: api.LastDay + 1, N: 0, Unit: 9}, api.ErrRange},
		{api.Spec{Start: api.LastDay + 1, End: 5}, api.ErrRange},
		{api.Spec{Start: 5, End: 5, Cal: api.Calendar{Weekend: 127}}, api.ErrSpec},
		{api.Spec{Start: 5, End: 9, N: 1, Unit: api.UDay, Stub: api.SShortLast, Lag: -1, Cal: api.Calendar{Rules: make([]api.Rule, 65)}}, api.ErrSpec},
		{api.Spec{Start: 0, End: 5000, N: 1, Unit: api.UDay, Stub: api.SShortLast, Cal: api.Calendar{Weekend: -1}}, api.ErrCal},
		{api.Spec{Start: 0, End: 5000, N: 1, Unit: api.UDay, Stub: api.SShortFirst, Cal: api.Calendar{Weekend: -1, Rules: make([]api.Rule, 65)}}, api.ErrLong},
		{api.Spec{Start: 0, End: api.LastDay, N: 1, Unit: api.UDay, Stub: api.SShortFirst, Lag: 1}, api.ErrMany},
	} {
		if x.want != api.ErrMany {
			if e := sched.Check(x.s); e != x.want {
				t.Errorf("Check(%v) = %v, not %v", x.s, e, x.want)
			}
		}
		if l, e := sched.Dates(x.s); l != nil || e != x.want {
			t.Errorf("Dates(%v) = %v, %v, not %v", x.s, l, e, x.want)
		}
		if l, e := sched.Periods(x.s); l != nil || e != x.want {
			t.Errorf("Periods(%v) = %v, %v, not %v", x.s, l, e, x.want)
		}
	}
}

// Promise 8.4: periods whose ends are not open, by each way of moving them.
func TestPeriodsMoved(t *testing.T) {
	p := func(from, to, start, end, pay string) api.Period {
		return api.Period{From: day(t, from), To: day(t, to), Start: day(t, start), End: day(t, end), Pay: day(t, pay)}
	}
	for _, x := range []struct {
		conv, lag int
		want      []api.Period
	}{
		{api.CNone, 0, []api.Period{p("2025-03-02", "2025-05-31", "2025-03-02", "2025-05-31", "2025-05-31"), p("2025-05-31", "2025-08-31", "2025-05-31", "2025-08-31", "2025-08-31")}},
		{api.CNone, 1, []api.Period{p("2025-03-02", "2025-05-31", "2025-03-02", "2025-05-31", "2025-06-02"), p("2025-05-31", "2025-08-31", "2025-05-31", "2025-08-31", "2025-09-01")}},
		{api.CFollow, 0, []api.Period{p("2025-03-02", "2025-05-31", "2025-03-03", "2025-06-02", "2025-06-02"), p("2025-05-31", "2025-08-31", "2025-06-02", "2025-09-01", "2025-09-01")}},
		{api.CFollow, 2, []api.Period{p("2025-03-02", "2025-05-31", "2025-03-03", "2025-06-02", "2025-06-04"), p("2025-05-31", "2025-08-31", "2025-06-02", "2025-09-01", "2025-09-03")}},
		{api.CPrecede, 1, []api.Period{p("2025-03-02", "2025-05-31", "2025-02-28", "2025-05-30", "2025-06-02"), p("2025-05-31", "2025-08-31", "2025-05-30", "2025-08-29", "2025-09-01")}},
		{api.CModFollow, 0, []api.Period{p("2025-03-02", "2025-05-31", "2025-03-03", "2025-05-30", "2025-05-30"), p("2025-05-31", "2025-08-31", "2025-05-30", "2025-08-29", "2025-08-29")}},
		{api.CModPrecede, 0, []api.Period{p("2025-03-02", "2025-05-31", "2025-03-03", "2025-05-30", "2025-05-30"), p("2025-05-31", "2025-08-31", "2025-05-30", "2025-08-29", "2025-08-29")}},
	} {
		s := api.Spec{Start: day(t, "2025-03-02"), End: day(t, "2025-08-31"), N: 3, Unit: api.UMonth, Stub: api.SShortFirst, Conv: x.conv, Lag: x.lag, Cal: market()}
		if got, e := sched.Periods(s); e != api.OK || !slices.Equal(got, x.want) {
			t.Errorf("by %d, lag %d: %v, %v, not %v", x.conv, x.lag, got, e, x.want)
		}
	}
}

// Promise 8.4: a period that has no open day to begin, to end or to be paid on.
func TestPeriodsOutOfDays(t *testing.T) {
	first := []api.Rule{{Kind: api.HDay, Day: 0}}
	last := []api.Rule{{Kind: api.HDay, Day: api.LastDay}}
	for _, x := range []struct {
		start, end, conv, lag int
		rules                 []api.Rule
		want                  api.Errno
	}{
		{0, 9, api.CPrecede, 0, first, api.ErrRange},
		{0, 9, api.CModPrecede, 0, first, api.OK},
		{0, 9, api.CFollow, 30, first, api.OK},
		{0, 9, api.CNone, 30, first, api.OK},
		{1, 9, api.CPrecede, 0, first, api.OK},
		{api.LastDay - 9, api.LastDay, api.CFollow, 0, last, api.ErrRange},
		{api.LastDay - 9, api.LastDay, api.CModFollow, 0, last, api.OK},
		{api.LastDay - 9, api.LastDay, api.CModFollow, 1, last, api.ErrRange},
		{api.LastDay - 9, api.LastDay, api.CNone, 0, last, api.OK},
		{api.LastDay - 9, api.LastDay, api.CNone, 1, nil, api.ErrRange},
		{api.LastDay - 9, api.LastDay - 1, api.CNone, 1, nil, api.OK},
		{api.LastDay - 9, api.LastDay - 1, api.CNone, 1, last, api.ErrRange},
		{api.LastDay - 9, api.LastDay - 3, api.CNone, 3, nil, api.OK},
		{api.LastDay - 9, api.LastDay - 3, api.CNone, 4, nil, api.ErrRange},
	} {
		s := api.Spec{Start: x.start, End: x.end, N: 2, Unit: api.UDay, Stub: api.SShortLast, Conv: x.conv, Lag: x.lag, Cal: api.Calendar{Rules: x.rules}}
		if l, e := sched.Periods(s); e != x.want || (l != nil) != (e == api.OK) {
			t.Errorf("%v: %v, %v", x, l, e)
		}
		if l, e := sched.Dates(s); e != api.OK || len(l) < 2 {
			t.Errorf("%v: days %v, %v", x, l, e)
		}
	}
}

// Promises 8.4 and 8.5.
func TestPeriodsOfScatteredSchedules(t *testing.T) {
	state := uint64(84)
	for range 6000 {
		s := someSpec(&state)
		want, err := periods(s)
		got, e := sched.Periods(s)
		if e != err || !slices.Equal(got, want) {
			t.Fatalf("Periods(%v) = %v, %v, not %v, %v", s, got, e, want, err)
		}
		for i := 1; i < len(got); i++ {
			if got[i].From != got[i-1].To || got[i].Start != got[i-1].End {
				t.Fatalf("Periods(%v) = %v: the one at %d does not go on from the one ahead", s, got, i)
			}
		}
		if l, _ := sched.Dates(s); e == api.OK && len(got) != len(l)-1 {
			t.Fatalf("Periods(%v): %d of %d days", s, len(got), len(l))
		}
	}
}

// periods is Periods by the chapter's words, of a schedule that may be.
func periods(s api.Spec) ([]api.Period, api.Errno) {
	days, e := cuts(s)
	if e != api.OK {
		return nil, e
	}
	var list []api.Period
	for i := range len(days) - 1 {
		p := api.Period{From: days[i], To: days[i+1]}
		var ofStart, ofEnd, ofPay api.Errno
		p.Start, ofStart = cal.Adjust(s.Cal, p.From, s.Conv)
		p.End, ofEnd = cal.Adjust(s.Cal, p.To, s.Conv)
		p.Pay = p.End
		if s.Lag > 0 {
			p.Pay, ofPay = cal.Add(s.Cal, p.End, s.Lag)
		}
		if ofStart != api.OK || ofEnd != api.OK || ofPay != api.OK {
			return nil, api.ErrRange
		}
		list = append(list, p)
	}
	return list, api.OK
}

// Promise 8.6.
func TestNoStubFromEitherEnd(t *testing.T) {
	state := uint64(86)
	for range 3000 {
		s := api.Spec{Unit: pick(&state, api.UDay, api.UWeek), N: pick(&state, 1, 30), Conv: pick(&state, api.CNone, api.CModPrecede), Cal: market()}
		one := s.N
		if s.Unit == api.UWeek {
			one *= 7
		}
		steps := pick(&state, 1, 40)
		s.Start = pick(&state, 7, api.LastDay-7-one*steps)
		s.End = s.Start + one*steps
		var want []api.Period
		for _, stub := range stubs() {
			s.Stub = stub
			got, e := sched.Periods(s)
			if e != api.OK || len(got) != steps || got[0].To != s.Start+one {
				t.Fatalf("Periods(%v) = %v, %v", s, got, e)
			}
			if want != nil && !slices.Equal(got, want) {
				t.Fatalf("Periods(%v) = %v, not %v", s, got, want)
			}
			want = got
		}
	}
}

// Promise 8.7.
func TestOneStepEach(t *testing.T) {
	state := uint64(87)
	for range 6000 {
		s := someSpec(&state)
		l, e := sched.Dates(s)
		if e != api.OK {
			t.Fatalf("Dates(%v) answers %v", s, e)
		}
		last := len(l) - 1
		for i := 1; i < last; i++ {
			anchor, k := s.Start, i
			if s.Stub == api.SShortFirst || s.Stub == api.SLongFirst {
				anchor, k = s.End, i-last
			}
			if n, ok := sched.Point(s, anchor, k); n != l[i] || !ok {
				t.Fatalf("Dates(%v) = %v: at %d there is no point, but %d, %v", s, l, i, n, ok)
			}
		}
	}
}

// Promise 8.8: an answer is new memory, and no argument is changed, nor what lies behind its list.
func TestNewMemory(t *testing.T) {
	rules := append(market().Rules, api.Rule{Kind: 77}, api.Rule{Kind: 78})
	was := slices.Clone(rules)
	s := quarters(t, "2030-08-31", api.SLongFirst)
	s.Conv, s.Lag, s.Cal = api.CModFollow, 2, api.Calendar{Weekend: 96, Rules: rules[:4]}
	days, _ := sched.Dates(s)
	list, _ := sched.Periods(s)
	for i := range days[:cap(days)] {
		days[:cap(days)][i] = -1
	}
	for i := range list[:cap(list)] {
		list[:cap(list)][i] = api.Period{}
	}
	wantDays, _ := cuts(s)
	wantList, _ := periods(s)
	if l, _ := sched.Dates(s); !slices.Equal(l, wantDays) {
		t.Errorf("a second answer of Dates is %v", l)
	}
	if l, _ := sched.Periods(s); !slices.Equal(l, wantList) {
		t.Errorf("a second answer of Periods is %v", l)
	}
	if !slices.Equal(rules, was) {
		t.Errorf("the rules were %v and are %v", was, rules)
	}
}

// Promise 8.8: whatever they are given, the calls end, with nothing beside an error; and the schedule is left as it was.
func TestEveryCallEnds(t *testing.T) {
	state := uint64(88)
	some := func(least, greatest int) int {
		if pick(&state, 0, 30) == 0 {
			return int(scatter(&state))
		}
		return pick(&state, least, greatest)
	}
	for range 5000 {
		s := api.Spec{Start: some(0, api.LastDay), N: some(0, 100), Unit: some(1, 4), Stub: some(1, 4), Roll: max(some(-6, 2), 0), Conv: some(0, 4), Lag: some(0, 30)}
		s.End = s.Start + some(1, 20000)
		s.Cal.Weekend = some(0, 127)
		for range pick(&state, 0, 2) {
			s.Cal.Rules = append(s.Cal.Rules, api.Rule{Kind: api.HDay, Day: some(0, api.LastDay)})
		}
		was := s
		was.Cal.Rules = slices.Clone(s.Cal.Rules)
		e := sched.Check(s)
		if n, ok := sched.Point(s, some(0, api.LastDay), some(-20, 20)); ok && e != api.OK || !ok && n != 0 || n < 0 || n > api.LastDay {
			t.Fatalf("Point(%v) = %d, %v, Check %v", s, n, ok, e)
		}
		days, ofDays := sched.Dates(s)
		list, ofList := sched.Periods(s)
		if e != api.OK && (ofDays != e || ofList != e) || ofDays != api.OK && ofList != ofDays {
			t.Fatalf("of %v Check answers %v, Dates %v, Periods %v", s, e, ofDays, ofList)
		}
		if (days != nil) != (ofDays == api.OK) || (list != nil) != (ofList == api.OK) {
			t.Fatalf("of %v: %v beside %v, %v beside %v", s, days, ofDays, list, ofList)
		}
		if !reflect.DeepEqual(s, was) {
			t.Fatalf("the schedule was %v and is %v", was, s)
		}
	}
}
