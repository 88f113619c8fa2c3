package date_test

import (
	"math"
	"testing"
	"time"

	"tenor/api"
	"tenor/date"
)

// These are no days, and no years, months or numbers in a month either.
var farOff = []int{math.MinInt, math.MinInt + 1, -1 << 32, -109573, -1, 1 << 32, math.MaxInt - 1, math.MaxInt}

// scatter is splitmix64: the same numbers in every run.
func scatter(state *uint64) uint64 {
	*state += 0x9e3779b97f4a7c15
	z := *state
	z = (z ^ z>>30) * 0xbf58476d1ce4e5b9
	z = (z ^ z>>27) * 0x94d049bb133111eb
	return z ^ z>>31
}

// noon is that date by the library's calendar, which the days are held against.
func noon(y, m, d int) time.Time {
	return time.Date(y, time.Month(m), d, 12, 0, 0, 0, time.UTC)
}

// libraryDay is the day of that date by the library's calendar, which goes on into the next months if there is no such date.
func libraryDay(y, m, d int) int {
	return int((noon(y, m, d).Unix() - noon(1900, 1, 1).Unix()) / 86400)
}

// libraryLength is how many days the month has by the library's calendar.
func libraryLength(y, m int) int {
	return noon(y, m+1, 0).Day()
}

// mondayFirst is a weekday of the library, whose Sunday is 0, as the program counts it.
func mondayFirst(w time.Weekday) int {
	return (int(w) + 6) % 7
}

func day(t *testing.T, y, m, d int) int {
	t.Helper()
	n, e := date.Of(y, m, d)
	if e != api.OK {
		t.Fatalf("Of(%d, %d, %d) answers %v", y, m, d, e)
	}
	return n
}

func civil(t *testing.T, n int) (y, m, d int) {
	t.Helper()
	y, m, d, e := date.Civil(n)
	if e != api.OK {
		t.Fatalf("Civil(%d) answers %v", n, e)
	}
	return y, m, d
}

// answer is what a call that tells a number and an error has to answer.
type answer struct {
	n int
	e api.Errno
}

// told makes an answer out of a call's results.
func told(n int, e api.Errno) answer { return answer{n, e} }

func good(n int) answer { return answer{n, api.OK} }

var (
	noDate  = answer{0, api.ErrDate}
	noRange = answer{0, api.ErrRange}
)

// The chapter's examples.
func TestExamples(t *testing.T) {
	for _, c := range []struct {
		name      string
		got, want answer
	}{
		{"Of(1900, 1, 1)", told(date.Of(1900, 1, 1)), good(0)},
		{"Of(1970, 1, 1)", told(date.Of(1970, 1, 1)), good(25567)},
		{"Of(2199, 12, 31)", told(date.Of(2199, 12, 31)), good(109572)},
		{"Of(2100, 2, 29)", told(date.Of(2100, 2, 29)), noDate},
		{"Weekday(45656)", told(date.Weekday(45656)), good(2)},
		{"Months(2025-01-31, 1, false)", told(date.Months(day(t, 2025, 1, 31), 1, false)), good(day(t, 2025, 2, 28))},
		{"Months(2025-02-28, 1, true)", told(date.Months(day(t, 2025, 2, 28), 1, true)), good(day(t, 2025, 3, 31))},
		{"Months(0, -1, false)", told(date.Months(0, -1, false)), noRange},
		{"Third(2025, 3)", told(date.Third(2025, 3)), good(day(t, 2025, 3, 19))},
		{"Easter(2025)", told(date.Easter(2025)), good(day(t, 2025, 4, 20))},
		{"Parse(2025-01-01)", told(date.Parse("2025-01-01")), good(45656)},
		{"Parse(2025-1-1)", told(date.Parse("2025-1-1")), noDate},
	} {
		if c.got != c.want {
			t.Errorf("%s is %v, not %v", c.name, c.got, c.want)
		}
	}
	if y, m, d := civil(t, 45656); y != 2025 || m != 1 || d != 1 {
		t.Errorf("Civil(45656) is %d-%d-%d", y, m, d)
	}
}

// Promise 5.1.
func TestLeap(t *testing.T) {
	for y := -2000; y <= 4000; y++ {
		if got, want := date.Leap(y), noon(y, 12, 31).YearDay() == 366; got != want {
			t.Errorf("Leap(%d) is %v", y, got)
		}
	}
	for y, want := range map[int]bool{
		1900: false, 1904: true, 2000: true, 2100: false, 2196: true, 2199: false, 0: true, -4: true, -100: false, -400: true, -1: false,
		math.MaxInt: false, math.MaxInt - 3: true, math.MinInt: true, math.MinInt + 1: false,
		math.MaxInt - 7: false, // divided by 100, and not by 400
		math.MinInt + 8: false, // so is this one
	} {
		if got := date.Leap(y); got != want {
			t.Errorf("Leap(%d) is %v", y, got)
		}
	}
}

// Promise 5.1.
func TestLength(t *testing.T) {
	for y := 1890; y <= 2210; y++ {
		for m := -2; m <= 15; m++ {
			want := noDate
			if y >= 1900 && y <= 2199 && m >= 1 && m <= 12 {
				want = good(libraryLength(y, m))
			}
			if got := told(date.Length(y, m)); got != want {
				t.Errorf("Length(%d, %d) is %v, not %v", y, m, got, want)
			}
		}
	}
	for _, x := range farOff {
		for _, got := range []answer{told(date.Length(x, 1)), told(date.Length(2000, x)), told(date.Length(x, x))} {
			if got != noDate {
				t.Errorf("a length with %d is %v", x, got)
			}
		}
	}
}

// Promise 5.2: each date that there is, and those about them that there are not.
func TestOf(t *testing.T) {
	for y := 1898; y <= 2201; y++ {
		for m := -1; m <= 14; m++ {
			for d := -1; d <= 33; d++ {
				want := noDate
				if y >= 1900 && y <= 2199 && m >= 1 && m <= 12 && d >= 1 && d <= libraryLength(y, m) {
					want = good(libraryDay(y, m, d))
				}
				if got := told(date.Of(y, m, d)); got != want {
					t.Fatalf("Of(%d, %d, %d) is %v, not %v", y, m, d, got, want)
				}
			}
		}
	}
	for _, x := range farOff {
		for _, got := range []answer{told(date.Of(x, 1, 1)), told(date.Of(2000, x, 1)), told(date.Of(2000, 1, x)), told(date.Of(x, x, x))} {
			if got != noDate {
				t.Errorf("a date with %d is %v", x, got)
			}
		}
	}
}

// Promise 5.2.
func TestCivil(t *testing.T) {
	for n := range api.LastDay + 1 {
		want := noon(1900, 1, 1+n)
		if y, m, d := civil(t, n); y != want.Year() || m != int(want.Month()) || d != want.Day() {
			t.Fatalf("Civil(%d) is %d-%d-%d, not %v", n, y, m, d, want)
		}
	}
	for _, n := range append([]int{api.LastDay + 1, api.LastDay + 2}, farOff...) {
		if y, m, d, e := date.Civil(n); y != 0 || m != 0 || d != 0 || e != api.ErrRange {
			t.Errorf("Civil(%d) is %d-%d-%d, %v", n, y, m, d, e)
		}
	}
}

// Promise 5.2.
func TestWeekday(t *testing.T) {
	for n := range api.LastDay + 1 {
		if got, want := told(date.Weekday(n)), good(mondayFirst(noon(1900, 1, 1+n).Weekday())); got != want {
			t.Fatalf("Weekday(%d) is %v, not %v", n, got, want)
		}
	}
	for _, n := range append([]int{api.LastDay + 1, api.LastDay + 2}, farOff...) {
		if got := told(date.Weekday(n)); got != noRange {
			t.Errorf("Weekday(%d) is %v", n, got)
		}
	}
}

// libraryMonths is what Months has to answer, its month found by the library's calendar.
func libraryMonths(n, k int, end bool) answer {
	from := noon(1900, 1, 1+n)
	to := noon(from.Year(), int(from.Month())+k, 1)
	if to.Year() < 1900 || to.Year() > 2199 {
		return noRange
	}
	last := noon(to.Year(), int(to.Month())+1, 0)
	isLast := from.AddDate(0, 0, 1).Day() == 1
	number := min(from.Day(), last.Day())
	if end && isLast {
		number = last.Day()
	}
	return good(libraryDay(to.Year(), int(to.Month()), number))
}

func checkMonths(t *testing.T, n, k int) {
	t.Helper()
	for _, end := range []bool{false, true} {
		if got, want := told(date.Months(n, k, end)), libraryMonths(n, k, end); got != want {
			t.Fatalf("Months(%d, %d, %v) is %v, not %v", n, k, end, got, want)
		}
	}
}

// Promise 5.3: the days of leap years, of others, and at both ends, so many months on and back that all ends of what there is are met.
func TestMonths(t *testing.T) {
	for _, y := range []int{1900, 1999, 2000, 2100, 2104, 2199} {
		for n := libraryDay(y, 1, 1); n <= libraryDay(y, 12, 31); n++ {
			for k := -30; k <= 30; k++ {
				checkMonths(t, n, k)
			}
			for _, k := range []int{-3601, -3600, -3599, -3588, -1200, -48, 48, 1200, 3588, 3599, 3600, 3601} {
				checkMonths(t, n, k)
			}
		}
	}
	for n := 27; n <= api.LastDay; n += 1229 {
		for k := -3610; k <= 3610; k += 7 {
			checkMonths(t, n, k)
		}
	}
}

// Promise 5.3: the last months that there are, from both ends, and one more.
func TestMonthsAtTheEnds(t *testing.T) {
	for _, c := range []struct {
		n, k int
		want answer
	}{
		{0, 3599, good(day(t, 2199, 12, 1))},
		{0, 3600, noRange},
		{30, 3599, good(api.LastDay)},
		{api.LastDay, -3599, good(30)},
		{api.LastDay, -3600, noRange},
		{api.LastDay, 1, noRange},
		{api.LastDay, 0, good(api.LastDay)},
		{0, -1, noRange},
		{31, -1, good(0)},
	} {
		if got := told(date.Months(c.n, c.k, false)); got != c.want {
			t.Errorf("Months(%d, %d, false) is %v, not %v", c.n, c.k, got, c.want)
		}
	}
}

// Promise 5.3: no int is too great to be asked for.
func TestMonthsRefuses(t *testing.T) {
	for _, end := range []bool{false, true} {
		for _, n := range append([]int{api.LastDay + 1}, farOff...) {
			for _, k := range []int{0, 1, -1, math.MaxInt, math.MinInt} {
				if got := told(date.Months(n, k, end)); got != noRange {
					t.Errorf("Months(%d, %d, %v) is %v", n, k, end, got)
				}
			}
		}
		for _, n := range []int{0, 45656, api.LastDay} {
			for _, k := range []int{3601, -3601, math.MaxInt, math.MinInt, math.MinInt + 1, math.MaxInt - 3599, 1 << 32, -1 << 32, 1 << 62, -1 << 62} {
				if got := told(date.Months(n, k, end)); got != noRange {
					t.Errorf("Months(%d, %d, %v) is %v", n, k, end, got)
				}
			}
		}
	}
}

// Promises 5.4 and 5.8: the third of the Wednesdays, counted one by one.
func TestThird(t *testing.T) {
	for y := 1898; y <= 2201; y++ {
		for m := -1; m <= 14; m++ {
			got := told(date.Third(y, m))
			if y < 1900 || y > 2199 || m < 1 || m > 12 {
				if got != noDate {
					t.Errorf("Third(%d, %d) is %v", y, m, got)
				}
				continue
			}
			d, seen := 0, 0
			for seen < 3 {
				d++
				if noon(y, m, d).Weekday() == time.Wednesday {
					seen++
				}
			}
			if got != good(libraryDay(y, m, d)) || d < 15 || d > 21 {
				t.Errorf("Third(%d, %d) is %v, not the one of number %d", y, m, got, d)
			}
		}
	}
	for _, x := range farOff {
		for _, got := range []answer{told(date.Third(x, 1)), told(date.Third(2000, x))} {
			if got != noDate {
				t.Errorf("a third Wednesday with %d is %v", x, got)
			}
		}
	}
}

// otherEaster is the date of Easter by another rule: the full moon of the spring, and from it on to the Sunday behind.
func otherEaster(y int) (m, d int) {
	golden, century := y%19, y/100
	moon := (century - century/4 - (8*century+13)/25 + 19*golden + 15) % 30
	moon -= (moon / 28) * (1 - (29/(moon+1))*((21-golden)/11))
	weekday := (y + y/4 + moon + 2 - century + century/4) % 7
	behind := moon - weekday
	m = 3 + (behind+40)/44
	return m, behind + 28 - 31*(m/4)
}

// Promises 5.4 and 5.8.
func TestEaster(t *testing.T) {
	for y := 1900; y <= 2199; y++ {
		m, d := otherEaster(y)
		n, e := date.Easter(y)
		if e != api.OK || n != day(t, y, m, d) {
			t.Errorf("Easter(%d) is %d, %v, not %d-%d", y, n, e, m, d)
		}
		if w, _ := date.Weekday(n); w != 6 || n < day(t, y, 3, 22) || n > day(t, y, 4, 25) {
			t.Errorf("Easter(%d) is %d, of weekday %d", y, n, w)
		}
	}
	for _, y := range append([]int{0, 19, 1899, 2200, 2201}, farOff...) {
		if got := told(date.Easter(y)); got != noDate {
			t.Errorf("Easter(%d) is %v", y, got)
		}
	}
}

// Promise 5.4: Easter Sundays as they were kept, and those about the ends of what Easter may be.
func TestEasterKnown(t *testing.T) {
	for _, c := range []struct{ y, m, d int }{
		{1900, 4, 15}, {1913, 3, 23}, {1943, 4, 25}, {1954, 4, 18}, {1961, 4, 2}, {1981, 4, 19}, {1999, 4, 4}, {2000, 4, 23},
		{2008, 3, 23}, {2011, 4, 24}, {2024, 3, 31}, {2025, 4, 20}, {2026, 4, 5}, {2038, 4, 25}, {2049, 4, 18}, {2076, 4, 19}, {2100, 3, 28},
		{2160, 3, 23}, {2190, 4, 25},
	} {
		if n, e := date.Easter(c.y); e != api.OK || n != day(t, c.y, c.m, c.d) {
			t.Errorf("Easter(%d) is %d, %v, not %d-%d", c.y, n, e, c.m, c.d)
		}
	}
}

// Promise 5.6: there and back, days that rise with dates, and from each month's last day to the next one's first.
func TestThereAndBack(t *testing.T) {
	next := 0
	for y := 1900; y <= 2199; y++ {
		for m := 1; m <= 12; m++ {
			last, e := date.Length(y, m)
			if e != api.OK {
				t.Fatalf("Length(%d, %d) answers %v", y, m, e)
			}
			for d := 1; d <= last; d++ {
				n := day(t, y, m, d)
				if n != next {
					t.Fatalf("%d-%d-%d is %d, not the day behind the one ahead, %d", y, m, d, n, next)
				}
				if yy, mm, dd := civil(t, n); yy != y || mm != m || dd != d {
					t.Fatalf("%d-%d-%d comes back as %d-%d-%d", y, m, d, yy, mm, dd)
				}
				next++
			}
		}
	}
	if next != api.LastDay+1 {
		t.Errorf("there are %d days", next)
	}
	for n := range api.LastDay + 1 {
		y, m, d := civil(t, n)
		if back := day(t, y, m, d); back != n {
			t.Fatalf("the day %d comes back as %d", n, back)
		}
	}
}

// Promise 5.7.
func TestMonthsAndBack(t *testing.T) {
	for n := range api.LastDay + 1 {
		if got := told(date.Months(n, 0, false)); got != good(n) {
			t.Fatalf("Months(%d, 0, false) is %v", n, got)
		}
		if _, _, d := civil(t, n); d > 28 {
			continue
		}
		for _, k := range []int{1, -1, 11, 12, -13, 600, -1199, 3000} {
			there, e := date.Months(n, k, false)
			if e != api.OK {
				continue
			}
			if got := told(date.Months(there, -k, false)); got != good(n) {
				t.Fatalf("the day %d, %d months on and back, is %v", n, k, got)
			}
		}
	}
}

// Promise 5.7.
func TestWeekdaysComeAgain(t *testing.T) {
	for first := 1900; first <= 1999; first++ {
		days := 0
		for y := range 400 {
			days += 365
			if date.Leap(first + y) {
				days++
			}
		}
		if days != 146097 || days%7 != 0 {
			t.Errorf("400 years from %d on have %d days", first, days)
		}
	}
	for y := 1901; y+28 <= 2099; y++ {
		for m := 1; m <= 12; m++ {
			for d := 1; d <= libraryLength(y, m); d++ {
				now, _ := date.Weekday(day(t, y, m, d))
				then, _ := date.Weekday(day(t, y+28, m, d))
				if now != then {
					t.Fatalf("%d-%d-%d has weekday %d, 28 years on %d", y, m, d, now, then)
				}
			}
		}
	}
}

// Promise 5.9: whatever is given, there is an answer, and beside an error nothing.
func TestEveryCallEnds(t *testing.T) {
	state := uint64(59)
	odd := func() int {
		return int(scatter(&state)) >> (scatter(&state) % 64)
	}
	for range 200000 {
		a, b, c := odd(), odd(), odd()
		date.Leap(a)
		y, m, d, e := date.Civil(a)
		if e != api.OK && (y != 0 || m != 0 || d != 0) {
			t.Fatalf("Civil(%d) is %d-%d-%d, %v", a, y, m, d, e)
		}
		if s, e := date.Print(a); (e == api.OK) != (len(s) == 10) || e != api.OK && s != "" {
			t.Fatalf("Print(%d) is %q, %v", a, s, e)
		}
		for _, got := range []answer{
			told(date.Length(a, b)), told(date.Of(a, b, c)), told(date.Weekday(a)), told(date.Third(a, b)), told(date.Easter(a)),
			told(date.Months(a, b, true)), told(date.Months(a, b, false)),
			told(date.Months(int(uint(a)%(api.LastDay+1)), b, true)), told(date.Months(int(uint(a)%(api.LastDay+1)), b, false)),
		} {
			if got.e != api.OK && got.n != 0 {
				t.Fatalf("of %d, %d, %d: %v", a, b, c, got)
			}
		}
	}
}
