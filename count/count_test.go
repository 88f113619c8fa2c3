package count_test

import (
	"math"
	"math/big"
	"reflect"
	"testing"
	"time"

	"tenor/api"
	"tenor/cal"
	"tenor/count"
	"tenor/date"
)

// scatter is splitmix64: the same numbers in every run.
func scatter(state *uint64) uint64 {
	*state += 0x9e3779b97f4a7c15
	z := *state
	z = (z ^ z>>30) * 0xbf58476d1ce4e5b9
	z = (z ^ z>>27) * 0x94d049bb133111eb
	return z ^ z>>31
}

// pick is one of least to greatest.
func pick(state *uint64, least, greatest int) int {
	return least + int(scatter(state)%uint64(greatest-least+1))
}

// someDay is a day, about every other time at the end of a month or beside it.
func someDay(state *uint64) int {
	n := pick(state, 0, api.LastDay)
	if pick(state, 0, 1) == 0 {
		return n
	}
	d := libraryDate(n)
	end := n + time.Date(d.Year(), d.Month()+1, 0, 12, 0, 0, 0, time.UTC).Day() - d.Day()
	return min(max(end+pick(state, -3, 2), 0), api.LastDay)
}

// libraryDate is the date of the day n by the library's calendar.
func libraryDate(n int) time.Time {
	return time.Date(1900, 1, 1+n, 12, 0, 0, 0, time.UTC)
}

// kinds is all day counts.
func kinds() []int {
	return []int{api.D360, api.D365, api.DAct, api.DBond, api.DEuro, api.DOpen}
}

// market is a calendar with a weekend and a rule of each kind.
func market() api.Calendar {
	return api.Calendar{Weekend: 96, Rules: []api.Rule{
		{Kind: api.HFix, Month: 1, Day: 1, From: 1900, To: 2199, Move: 1},
		{Kind: api.HEaster, Offset: -2, From: 1900, To: 2199},
		{Kind: api.HNth, Month: 11, Weekday: 3, N: 4, From: 1950, To: 2150},
		{Kind: api.HDay, Day: 45000},
	}}
}

// wrong is a calendar that may not be.
func wrong() api.Calendar { return api.Calendar{Weekend: 127} }

// tooLong is a calendar with one rule too many, and none of them may be.
func tooLong() api.Calendar {
	return api.Calendar{Weekend: -1, Rules: make([]api.Rule, api.MaxRules+1)}
}

// fraction is what Fraction has to answer.
type fraction struct {
	p, q int
	e    api.Errno
}

func told(p, q int, e api.Errno) fraction { return fraction{p, q, e} }

// tally has of each day, and of the one behind the last, how many days ahead of it are of leap years, and how many are open.
type tally struct{ leap, open []int }

func tallyOf(c api.Calendar) tally {
	t := tally{make([]int, api.LastDay+2), make([]int, api.LastDay+2)}
	for n := range api.LastDay + 1 {
		t.leap[n+1], t.open[n+1] = t.leap[n], t.open[n]
		if time.Date(libraryDate(n).Year(), 2, 29, 12, 0, 0, 0, time.UTC).Day() == 29 {
			t.leap[n+1]++
		}
		if is, _ := cal.Open(c, n); is {
			t.open[n+1]++
		}
	}
	return t
}

// months30 is the chapter's sum with the numbers of the days in their months as given.
func months30(a, b time.Time, d1, d2 int) int {
	return 360*(b.Year()-a.Year()) + 30*(int(b.Month())-int(a.Month())) + (d2 - d1)
}

// between is the fraction from a to b by the chapter's words.
func (t tally) between(kind, a, b int) fraction {
	if b < a {
		f := t.between(kind, b, a)
		return fraction{-f.p, f.q, f.e}
	}
	from, to := libraryDate(a), libraryDate(b)
	d1, d2 := from.Day(), to.Day()
	switch kind {
	case api.D360:
		return fraction{b - a, 360, api.OK}
	case api.D365:
		return fraction{b - a, 365, api.OK}
	case api.DAct:
		l := t.leap[b] - t.leap[a]
		return fraction{366*(b-a-l) + 365*l, 133590, api.OK}
	case api.DBond:
		if d1 == 31 {
			d1 = 30
		}
		if d1 == 30 && d2 == 31 {
			d2 = 30
		}
		return fraction{months30(from, to, d1, d2), 360, api.OK}
	case api.DEuro:
		if d1 == 31 {
			d1 = 30
		}
		if d2 == 31 {
			d2 = 30
		}
		return fraction{months30(from, to, d1, d2), 360, api.OK}
	}
	return fraction{t.open[b] - t.open[a], 252, api.OK}
}

// quotient is near of p / q, by the library's exact fractions.
func quotient(p, q int) float64 {
	x, _ := big.NewRat(int64(p), int64(q)).Float64()
	return x
}

func same(x, y float64) bool { return math.Float64bits(x) == math.Float64bits(y) }

func day(t *testing.T, s string) int {
	t.Helper()
	n, e := date.Parse(s)
	if e != api.OK {
		t.Fatalf("Parse(%s) answers %v", s, e)
	}
	return n
}

// Promises 7.1 and 7.2: the chapter's examples, and the edges of its rules.
func TestExamples(t *testing.T) {
	for _, x := range []struct {
		kind int
		a, b string
		p, q int
	}{
		{api.D360, "2025-01-01", "2025-07-01", 181, 360},
		{api.D365, "2025-01-01", "2025-07-01", 181, 365},
		{api.D365, "1900-01-01", "2199-12-31", 109572, 365},
		{api.DAct, "2023-12-31", "2024-01-02", 731, 133590},
		{api.DAct, "2024-01-01", "2025-01-01", 133590, 133590},
		{api.DAct, "2023-01-01", "2024-01-01", 133590, 133590},
		{api.DAct, "1900-01-01", "2199-12-31", 133590*300 - 366, 133590},
		{api.DBond, "2025-01-31", "2025-03-31", 60, 360},
		{api.DBond, "2025-01-30", "2025-02-28", 28, 360},
		{api.DBond, "2025-01-15", "2025-03-31", 76, 360},
		{api.DBond, "2025-01-30", "2025-03-31", 60, 360},
		{api.DBond, "2025-01-29", "2025-03-31", 62, 360},
		{api.DBond, "2025-03-31", "2025-01-15", -76, 360},
		{api.DBond, "2025-01-30", "2025-01-31", 0, 360},
		{api.DEuro, "2025-01-15", "2025-03-31", 75, 360},
		{api.DEuro, "2025-03-31", "2025-01-15", -75, 360},
		{api.DEuro, "2025-01-31", "2025-02-28", 28, 360},
		{api.DOpen, "2025-04-14", "2025-04-21", 4, 252},
		{api.DOpen, "2025-04-21", "2025-04-14", -4, 252},
		{api.DOpen, "2025-04-18", "2025-04-21", 0, 252},
	} {
		if got, want := told(count.Fraction(x.kind, market(), day(t, x.a), day(t, x.b))), (fraction{x.p, x.q, api.OK}); got != want {
			t.Errorf("Fraction(%d, %s to %s) = %v, not %v", x.kind, x.a, x.b, got, want)
		}
	}
	a, b := day(t, "2025-01-01"), day(t, "2026-01-01")
	for _, x := range []struct {
		a, b int
		want float64
	}{{a, b, 1}, {b, a, -1}, {a, a, 0}} {
		if y, e := count.Year(api.D365, api.Calendar{}, x.a, x.b); !same(y, x.want) || e != api.OK {
			t.Errorf("Year(D365, %d to %d) = %v, %v", x.a, x.b, y, e)
		}
	}
}

// Promises 7.1 and 7.2, over days of all years.
func TestFractionsOfScatteredDays(t *testing.T) {
	c := market()
	days := tallyOf(c)
	state := uint64(71)
	for range 4000 {
		a, b := someDay(&state), someDay(&state)
		for _, kind := range kinds() {
			want := days.between(kind, a, b)
			if got := told(count.Fraction(kind, c, a, b)); got != want {
				t.Fatalf("Fraction(%d, %d to %d) = %v, not %v", kind, a, b, got, want)
			}
			if y, e := count.Year(kind, c, a, b); !same(y, quotient(want.p, want.q)) || e != api.OK {
				t.Fatalf("Year(%d, %d to %d) = %v, %v, not of %v", kind, a, b, y, e, want)
			}
		}
	}
}

// Promise 7.1: every pair of days of a year with a February 29 and of one without, and of the first and the last days.
func TestFractionsOfAllPairs(t *testing.T) {
	days := tallyOf(api.Calendar{})
	for _, x := range [][2]string{{"2099-12-01", "2101-01-05"}, {"2023-12-01", "2025-01-05"}, {"1900-01-01", "1900-04-02"}, {"2199-09-30", "2199-12-31"}} {
		from, to := day(t, x[0]), day(t, x[1])
		for a := from; a <= to; a++ {
			for b := from; b <= to; b++ {
				for _, kind := range []int{api.DAct, api.DBond, api.DEuro} {
					if got, want := told(count.Fraction(kind, wrong(), a, b)), days.between(kind, a, b); got != want {
						t.Fatalf("Fraction(%d, %d to %d) = %v, not %v", kind, a, b, got, want)
					}
				}
			}
		}
	}
}

// Promise 7.1: a whole year by DAct is one year, whichever it is.
func TestActualYears(t *testing.T) {
	for y := api.FirstYear; y < api.LastYear; y++ {
		a, _ := date.Of(y, 1, 1)
		b, _ := date.Of(y+1, 1, 1)
		if got := told(count.Fraction(api.DAct, wrong(), a, b)); got != (fraction{133590, 133590, api.OK}) {
			t.Errorf("DAct of the year %d is %v", y, got)
		}
	}
}

// Promises 7.1 and 7.2: what may not be, and which error is told first.
func TestRefusals(t *testing.T) {
	farOff := []int{math.MinInt, math.MinInt + 1, -1 << 32, -1, api.LastDay + 1, 1 << 32, math.MaxInt}
	refuse := func(kind int, c api.Calendar, a, b int, e api.Errno) {
		t.Helper()
		if got := told(count.Fraction(kind, c, a, b)); got != (fraction{0, 0, e}) {
			t.Errorf("Fraction(%d, %d to %d) = %v, not %v", kind, a, b, got, e)
		}
		if y, err := count.Year(kind, c, a, b); !same(y, 0) || err != e {
			t.Errorf("Year(%d, %d to %d) = %v, %v, not %v", kind, a, b, y, err, e)
		}
	}
	for _, kind := range []int{math.MinInt, -1, 0, api.DOpen + 1, 256 + api.D360, math.MaxInt} {
		for _, c := range []api.Calendar{{}, wrong(), tooLong()} {
			refuse(kind, c, 0, 1, api.ErrCount)
			refuse(kind, c, 1, 0, api.ErrCount)
			refuse(kind, c, -1, math.MaxInt, api.ErrCount)
		}
	}
	for _, n := range farOff {
		for _, kind := range kinds() {
			for _, m := range append([]int{0, api.LastDay}, farOff...) {
				refuse(kind, market(), n, m, api.ErrRange)
				refuse(kind, market(), m, n, api.ErrRange)
			}
		}
		refuse(api.DOpen, wrong(), n, 0, api.ErrCal)
		refuse(api.DOpen, tooLong(), 0, n, api.ErrLong)
	}
	refuse(api.DOpen, wrong(), 0, 0, api.ErrCal)
	refuse(api.DOpen, wrong(), 9, 0, api.ErrCal)
	refuse(api.DOpen, tooLong(), 0, 9, api.ErrLong)
	refuse(api.DOpen, api.Calendar{Rules: []api.Rule{{Kind: 9}}}, 0, 9, api.ErrCal)
}

// Promise 7.1: the counts but DOpen do not look at the calendar.
func TestCalendarOfNoMatter(t *testing.T) {
	for _, kind := range kinds()[:5] {
		want := told(count.Fraction(kind, api.Calendar{}, 31, 45656))
		for _, c := range []api.Calendar{wrong(), tooLong(), market()} {
			if got := told(count.Fraction(kind, c, 31, 45656)); got != want || got.e != api.OK {
				t.Errorf("Fraction(%d) = %v, not %v", kind, got, want)
			}
		}
	}
}

// Promise 7.3.
func TestAddsUp(t *testing.T) {
	c := market()
	state := uint64(73)
	for range 2000 {
		x, y, z := someDay(&state), someDay(&state), someDay(&state)
		for _, kind := range []int{api.D360, api.D365, api.DAct, api.DOpen} {
			first, _, _ := count.Fraction(kind, c, x, y)
			second, _, _ := count.Fraction(kind, c, y, z)
			whole, _, e := count.Fraction(kind, c, x, z)
			if first+second != whole || e != api.OK {
				t.Fatalf("kind %d: %d to %d to %d: %d and %d are not %d", kind, x, y, z, first, second, whole)
			}
		}
	}
}

// Promise 7.4: turned round, and of a day to itself.
func TestTurnedRound(t *testing.T) {
	c := market()
	state := uint64(74)
	for range 2000 {
		a, b := someDay(&state), someDay(&state)
		for _, kind := range kinds() {
			there, back := told(count.Fraction(kind, c, a, b)), told(count.Fraction(kind, c, b, a))
			if there.p != -back.p || there.q != back.q {
				t.Fatalf("kind %d, %d and %d: %v, back %v", kind, a, b, there, back)
			}
			if stay, _, e := count.Fraction(kind, c, a, a); stay != 0 || e != api.OK {
				t.Fatalf("kind %d, %d to itself: %d, %v", kind, a, stay, e)
			}
			if y, e := count.Year(kind, c, a, a); !same(y, 0) || e != api.OK {
				t.Fatalf("kind %d, %d to itself: %v, %v", kind, a, y, e)
			}
		}
	}
}

// Promise 7.4: no count falls where b rises.
func TestDoesNotFall(t *testing.T) {
	open := api.Calendar{Weekend: 96}
	for _, s := range []string{"2024-01-29", "2024-01-30", "2024-01-31", "2024-02-28", "2024-02-29", "2023-02-28", "2024-03-01", "2024-04-30", "2024-12-31"} {
		a := day(t, s)
		for _, kind := range kinds() {
			last := math.MinInt
			for b := max(a-800, 0); b <= a+800; b++ {
				p, _, e := count.Fraction(kind, open, a, b)
				if p < last || e != api.OK {
					t.Fatalf("kind %d, %s to %d: %d, %v behind %d", kind, s, b, p, e, last)
				}
				last = p
			}
		}
	}
	for _, kind := range kinds()[:5] {
		for _, a := range []int{0, 30, 54000, api.LastDay} {
			last := math.MinInt
			for b := range api.LastDay + 1 {
				p, _, _ := count.Fraction(kind, open, a, b)
				if p < last {
					t.Fatalf("kind %d, %d to %d: %d behind %d", kind, a, b, p, last)
				}
				last = p
			}
		}
	}
}

// Promise 7.5: whatever they are given, the calls end; and the calendar is left as it was.
func TestEveryCallEnds(t *testing.T) {
	state := uint64(75)
	some := func(greatest int) int {
		if pick(&state, 0, 2) == 0 {
			return int(scatter(&state))
		}
		return pick(&state, -1, greatest)
	}
	for range 5000 {
		c := api.Calendar{Weekend: some(128)}
		for range pick(&state, 0, 4) {
			c.Rules = append(c.Rules, api.Rule{Kind: some(5), Month: some(13), Day: some(32), Weekday: some(7), N: some(6), Offset: some(101), From: some(2200), To: some(2200), Move: some(3)})
		}
		was := api.Calendar{Weekend: c.Weekend, Rules: append([]api.Rule(nil), c.Rules...)}
		kind, a, b := some(7), some(api.LastDay+1), some(api.LastDay+1)
		f := told(count.Fraction(kind, c, a, b))
		y, e := count.Year(kind, c, a, b)
		if f.e != e || e != api.OK && (f.p != 0 || f.q != 0 || !same(y, 0)) || e == api.OK && !same(y, quotient(f.p, f.q)) {
			t.Fatalf("Fraction(%d, %v, %d to %d) = %v, Year %v, %v", kind, c, a, b, f, y, e)
		}
		if !reflect.DeepEqual(c, was) {
			t.Fatalf("the calendar was %v and is %v", was, c)
		}
	}
}
