package cal_test

import (
	"math"
	"slices"
	"testing"

	"tenor/api"
	"tenor/cal"
	"tenor/date"
)

// One rule of each kind that may be.
var (
	fixed  = api.Rule{Kind: api.HFix, Month: 1, Day: 1, From: 1900, To: 2199}
	nth    = api.Rule{Kind: api.HNth, Month: 11, Weekday: 3, N: 4, From: 1900, To: 2199}
	easter = api.Rule{Kind: api.HEaster, Offset: -2, From: 1900, To: 2199}
	single = api.Rule{Kind: api.HDay, Day: 45656}
)

// with is the rule with one field changed.
func with(r api.Rule, field func(*api.Rule) *int, value int) api.Rule {
	*field(&r) = value
	return r
}

func kind(r *api.Rule) *int    { return &r.Kind }
func month(r *api.Rule) *int   { return &r.Month }
func number(r *api.Rule) *int  { return &r.Day }
func which(r *api.Rule) *int   { return &r.N }
func weekday(r *api.Rule) *int { return &r.Weekday }
func offset(r *api.Rule) *int  { return &r.Offset }
func from(r *api.Rule) *int    { return &r.From }
func to(r *api.Rule) *int      { return &r.To }
func move(r *api.Rule) *int    { return &r.Move }

// Promises 6.1 and 6.2: each field of each kind at the ends of what it may be, and beyond them; a field that the kind does not name may be 0 alone.
func TestFields(t *testing.T) {
	for _, c := range []struct {
		name            string
		rule            api.Rule
		field           func(*api.Rule) *int
		least, greatest int
	}{
		{"HFix Kind", fixed, kind, 1, 1},
		{"HFix Month", fixed, month, 1, 12},
		{"HFix Day", fixed, number, 1, 31},
		{"HFix Day of February", with(fixed, month, 2), number, 1, 29},
		{"HFix Day of April", with(fixed, month, 4), number, 1, 30},
		{"HFix Day of December", with(fixed, month, 12), number, 1, 31},
		{"HFix Month of a 29th", with(fixed, number, 29), month, 1, 12},
		{"HFix Month of a 31st up to February", with(fixed, number, 31), month, 1, 1},
		{"HFix N", fixed, which, 0, 0},
		{"HFix Weekday", fixed, weekday, 0, 0},
		{"HFix Offset", fixed, offset, 0, 0},
		{"HFix From", fixed, from, 1900, 2199},
		{"HFix To", fixed, to, 1900, 2199},
		{"HFix From of 1950", with(fixed, to, 1950), from, 1900, 1950},
		{"HFix To of 1950", with(fixed, from, 1950), to, 1950, 2199},
		{"HFix Move", fixed, move, 0, 2},
		{"HNth Kind", nth, kind, 2, 2},
		{"HNth Month", nth, month, 1, 12},
		{"HNth Day", nth, number, 0, 0},
		{"HNth N", nth, which, 1, 5},
		{"HNth Weekday", nth, weekday, 0, 6},
		{"HNth Offset", nth, offset, 0, 0},
		{"HNth From", nth, from, 1900, 2199},
		{"HNth From of 1950", with(nth, to, 1950), from, 1900, 1950},
		{"HNth To", nth, to, 1900, 2199},
		{"HNth Move", nth, move, 0, 2},
		{"HEaster Kind", easter, kind, 3, 3},
		{"HEaster Month", easter, month, 0, 0},
		{"HEaster Day", easter, number, 0, 0},
		{"HEaster N", easter, which, 0, 0},
		{"HEaster Weekday", easter, weekday, 0, 0},
		{"HEaster Offset", easter, offset, -100, 100},
		{"HEaster From", easter, from, 1900, 2199},
		{"HEaster To", easter, to, 1900, 2199},
		{"HEaster To of 1950", with(easter, from, 1950), to, 1950, 2199},
		{"HEaster Move", easter, move, 0, 2},
		{"HDay Kind", single, kind, 4, 4},
		{"HDay Month", single, month, 0, 0},
		{"HDay Day", single, number, 0, api.LastDay},
		{"HDay N", single, which, 0, 0},
		{"HDay Weekday", single, weekday, 0, 0},
		{"HDay Offset", single, offset, 0, 0},
		{"HDay From", single, from, 0, 0},
		{"HDay To", single, to, 0, 0},
		{"HDay Move", single, move, 0, 0},
	} {
		for _, value := range []int{c.least, c.greatest, (c.least + c.greatest) / 2} {
			if e, at := cal.Check(api.Calendar{Rules: []api.Rule{with(c.rule, c.field, value)}}); e != api.OK || at != 0 {
				t.Errorf("%s %d: %v, %d", c.name, value, e, at)
			}
		}
		for _, value := range append([]int{c.least - 1, c.greatest + 1}, farOff...) {
			if value >= c.least && value <= c.greatest {
				continue
			}
			if e, at := cal.Check(api.Calendar{Rules: []api.Rule{single, with(c.rule, c.field, value)}}); e != api.ErrCal || at != 1 {
				t.Errorf("%s %d: %v, %d", c.name, value, e, at)
			}
		}
	}
	both := with(with(single, from, 1900), to, 2199)
	if e, at := cal.Check(api.Calendar{Rules: []api.Rule{both}}); e != api.ErrCal || at != 0 {
		t.Errorf("HDay with years: %v, %d", e, at)
	}
}

// Promise 6.2: the number of rules is asked first, then Weekend, then the rules from the first on.
func TestCheck(t *testing.T) {
	bad := api.Rule{Kind: 9}
	many := func(n int, last ...api.Rule) []api.Rule {
		var l []api.Rule
		for range n - len(last) {
			l = append(l, fixed)
		}
		return append(l, last...)
	}
	for _, c := range []struct {
		name string
		c    api.Calendar
		e    api.Errno
		at   int
	}{
		{"nothing", api.Calendar{}, api.OK, 0},
		{"no rules", api.Calendar{Weekend: 126, Rules: []api.Rule{}}, api.OK, 0},
		{"64 rules", api.Calendar{Rules: many(64)}, api.OK, 0},
		{"65 rules", api.Calendar{Rules: many(65)}, api.ErrLong, 0},
		{"65 rules that may not be, and Weekend", api.Calendar{Weekend: 127, Rules: many(65, bad)}, api.ErrLong, 0},
		{"Weekend 127", api.Calendar{Weekend: 127}, api.ErrCal, -1},
		{"Weekend 128", api.Calendar{Weekend: 128}, api.ErrCal, -1},
		{"Weekend -1", api.Calendar{Weekend: -1}, api.ErrCal, -1},
		{"Weekend and a rule", api.Calendar{Weekend: 127, Rules: many(1, bad)}, api.ErrCal, -1},
		{"the first rule", api.Calendar{Rules: []api.Rule{bad}}, api.ErrCal, 0},
		{"the second rule", api.Calendar{Weekend: 96, Rules: many(2, bad)}, api.ErrCal, 1},
		{"two rules", api.Calendar{Weekend: 96, Rules: many(5, bad, bad)}, api.ErrCal, 3},
		{"the last rule", api.Calendar{Weekend: 96, Rules: many(64, bad)}, api.ErrCal, 63},
		{"a rule of nothing", api.Calendar{Rules: []api.Rule{{}}}, api.ErrCal, 0},
	} {
		if e, at := cal.Check(c.c); e != c.e || at != c.at {
			t.Errorf("%s: %v, %d, not %v, %d", c.name, e, at, c.e, c.at)
		}
	}
	for weekend := range 127 {
		if e, at := cal.Check(api.Calendar{Weekend: weekend}); e != api.OK || at != 0 {
			t.Errorf("Weekend %d: %v, %d", weekend, e, at)
		}
	}
	for _, weekend := range farOff {
		if e, at := cal.Check(api.Calendar{Weekend: weekend}); e != api.ErrCal || at != -1 {
			t.Errorf("Weekend %d: %v, %d", weekend, e, at)
		}
	}
}

// given is all days that the calendar's rules give, as texts.
func given(t *testing.T, c api.Calendar, years ...int) []string {
	t.Helper()
	var l []string
	for _, y := range years {
		for n := libraryDay(y, 1, 1); n <= libraryDay(y, 12, 31); n++ {
			is, e := cal.Holiday(c, n)
			if e != api.OK {
				t.Fatalf("Holiday(%d) answers %v", n, e)
			}
			if is {
				s, _ := date.Print(n)
				l = append(l, s)
			}
		}
	}
	return l
}

// Promises 6.1 and 6.3: what rules give, by dates that were looked up.
func TestRules(t *testing.T) {
	const (
		weekend = 96 // Saturday and Sunday
		long    = 112
		mondays = 126 // none but Mondays are open
	)
	every := func(r api.Rule) api.Rule { r.From, r.To = 1900, 2199; return r }
	for _, c := range []struct {
		name    string
		weekend int
		rule    api.Rule
		years   []int
		want    []string
	}{
		{"a date", weekend, every(api.Rule{Kind: api.HFix, Month: 12, Day: 25}), []int{2021, 2022}, []string{"2021-12-25", "2022-12-25"}},
		{"February 29", weekend, every(api.Rule{Kind: api.HFix, Month: 2, Day: 29}), []int{1900, 1904, 2000, 2001, 2100}, []string{"1904-02-29", "2000-02-29"}},
		{"its years", weekend, api.Rule{Kind: api.HFix, Month: 7, Day: 1, From: 2001, To: 2002}, []int{2000, 2001, 2002, 2003}, []string{"2001-07-01", "2002-07-01"}},
		{"one year", weekend, api.Rule{Kind: api.HNth, Month: 7, N: 1, From: 2001, To: 2001}, []int{2000, 2001, 2002}, []string{"2001-07-02"}},
		{"a first Monday", weekend, every(api.Rule{Kind: api.HNth, Month: 9, N: 1}), []int{2025, 2026}, []string{"2025-09-01", "2026-09-07"}},
		{"a fourth Thursday", weekend, every(api.Rule{Kind: api.HNth, Month: 11, Weekday: 3, N: 4}), []int{2025, 2028}, []string{"2025-11-27", "2028-11-23"}},
		{"a last one that is the fifth", weekend, every(api.Rule{Kind: api.HNth, Month: 5, Weekday: 0, N: 5}), []int{2022, 2027}, []string{"2022-05-30", "2027-05-31"}},
		{"a last one that is the fourth", weekend, every(api.Rule{Kind: api.HNth, Month: 5, Weekday: 0, N: 5}), []int{2024, 2025}, []string{"2024-05-27", "2025-05-26"}},
		{"a last one of a short February", weekend, every(api.Rule{Kind: api.HNth, Month: 2, Weekday: 5, N: 5}), []int{2025, 2020}, []string{"2025-02-22", "2020-02-29"}},
		{"Good Friday", weekend, every(api.Rule{Kind: api.HEaster, Offset: -2}), []int{2024, 2025}, []string{"2024-03-29", "2025-04-18"}},
		{"Easter Sunday", weekend, every(api.Rule{Kind: api.HEaster}), []int{2025}, []string{"2025-04-20"}},
		{"Whit Monday", weekend, every(api.Rule{Kind: api.HEaster, Offset: 50}), []int{2025}, []string{"2025-06-09"}},
		{"in the year ahead of Easter's", weekend, api.Rule{Kind: api.HEaster, Offset: -100, From: 2024, To: 2024}, []int{2023, 2024}, []string{"2023-12-22"}},
		{"one day", weekend, api.Rule{Kind: api.HDay, Day: 45656}, []int{2024, 2025, 2026}, []string{"2025-01-01"}},
		{"one day of the weekend", weekend, api.Rule{Kind: api.HDay, Day: libraryDay(2025, 1, 4)}, []int{2025}, []string{"2025-01-04"}},
		{"on, from a Saturday and a Sunday", weekend, every(api.Rule{Kind: api.HFix, Month: 1, Day: 1, Move: 1}), []int{2021, 2022, 2023}, []string{"2021-01-01", "2022-01-03", "2023-01-02"}},
		{"to the nearest, from a Saturday and a Sunday", weekend, every(api.Rule{Kind: api.HFix, Month: 7, Day: 4, Move: 2}), []int{2020, 2021, 2022}, []string{"2020-07-03", "2021-07-05", "2022-07-04"}},
		{"to the nearest, back over the year's end", weekend, api.Rule{Kind: api.HFix, Month: 1, Day: 1, From: 2022, To: 2023, Move: 2}, []int{2021, 2022, 2023}, []string{"2021-12-31", "2023-01-02"}},
		{"on, over the year's end", weekend, api.Rule{Kind: api.HFix, Month: 12, Day: 31, From: 2021, To: 2022, Move: 1}, []int{2021, 2022, 2023}, []string{"2021-12-31", "2023-01-02"}},
		{"to the later of two as near", long, every(api.Rule{Kind: api.HFix, Month: 7, Day: 4, Move: 2}), []int{2020}, []string{"2020-07-06"}},
		{"to the nearest, back from a Friday", long, every(api.Rule{Kind: api.HFix, Month: 7, Day: 3, Move: 2}), []int{2020}, []string{"2020-07-02"}},
		{"six days on", mondays, every(api.Rule{Kind: api.HFix, Month: 7, Day: 7, Move: 1}), []int{2020}, []string{"2020-07-13"}},
		{"three days back", mondays, every(api.Rule{Kind: api.HFix, Month: 7, Day: 9, Move: 2}), []int{2020}, []string{"2020-07-06"}},
		{"three days on", mondays, every(api.Rule{Kind: api.HFix, Month: 7, Day: 10, Move: 2}), []int{2020}, []string{"2020-07-13"}},
		{"Easter, moved", weekend, every(api.Rule{Kind: api.HEaster, Move: 1}), []int{2025}, []string{"2025-04-21"}},
		{"a weekday, moved", weekend, every(api.Rule{Kind: api.HNth, Month: 5, Weekday: 5, N: 1, Move: 2}), []int{2025}, []string{"2025-05-02"}},
		{"the last day that there is", 0, every(api.Rule{Kind: api.HFix, Month: 12, Day: 31}), []int{2199}, []string{"2199-12-31"}},
		{"on, off the last day", 1 << 1, every(api.Rule{Kind: api.HFix, Month: 12, Day: 31, Move: 1}), []int{2199}, nil},
		{"to the nearest, off the last day", 1 << 1, every(api.Rule{Kind: api.HFix, Month: 12, Day: 31, Move: 2}), []int{2199}, nil},
		{"to the nearest, back from the last day", 6, every(api.Rule{Kind: api.HFix, Month: 12, Day: 31, Move: 2}), []int{2199}, []string{"2199-12-30"}},
		{"to the nearest, on from the first day", 1, every(api.Rule{Kind: api.HFix, Month: 1, Day: 1, Move: 2}), []int{1900}, []string{"1900-01-02"}},
		{"to the nearest, off the first day", 3, every(api.Rule{Kind: api.HFix, Month: 1, Day: 1, Move: 2}), []int{1900}, nil},
		{"to the nearest, off the second day", 7, every(api.Rule{Kind: api.HFix, Month: 1, Day: 2, Move: 2}), []int{1900}, []string{"1900-01-04"}},
		{"on, from the first day", 3, every(api.Rule{Kind: api.HFix, Month: 1, Day: 1, Move: 1}), []int{1900}, []string{"1900-01-03"}},
		{"the earliest day by Easter", 0, every(api.Rule{Kind: api.HEaster, Offset: -100}), []int{1900}, []string{"1900-01-05", "1900-12-28"}},
		{"the latest day by Easter", 0, every(api.Rule{Kind: api.HEaster, Offset: 100}), []int{2199}, []string{"2199-07-23"}},
	} {
		got := given(t, api.Calendar{Weekend: c.weekend, Rules: []api.Rule{c.rule}}, c.years...)
		if !slices.Equal(got, c.want) {
			t.Errorf("%s: %v, not %v", c.name, got, c.want)
		}
	}
}

// These are no days, no years, and nothing else that a field may be.
var farOff = []int{math.MinInt, math.MinInt + 1, -1 << 32, -109573, -200, 1 << 32, math.MaxInt - 1, math.MaxInt}
