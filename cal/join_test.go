package cal_test

import (
	"slices"
	"testing"

	"tenor/api"
	"tenor/cal"
)

// withoutMoves is the calendar with its rules staying where they fall.
func withoutMoves(c api.Calendar) api.Calendar {
	for i := range c.Rules {
		c.Rules[i].Move = 0
	}
	return c
}

// Promises 6.6 and 6.9: of calendars with one Weekend, whatever their rules, and of others whose rules stay.
func TestJoin(t *testing.T) {
	state := uint64(66)
	for i := range 60 {
		a, b := someCalendar(&state, i%8), someCalendar(&state, i%5)
		if i%2 == 0 {
			b.Weekend = a.Weekend
		} else {
			a, b = withoutMoves(a), withoutMoves(b)
			b.Weekend &^= 1 << (i % 7)
			a.Weekend &^= 1 << (i % 7)
		}
		both, e := cal.Join(a, b)
		if e != api.OK || both.Weekend != a.Weekend|b.Weekend || !slices.Equal(both.Rules, append(slices.Clone(a.Rules), b.Rules...)) {
			t.Fatalf("Join(%v, %v) is %v, %v", a, b, both, e)
		}
		for range 500 {
			n := pick(&state, 0, api.LastDay)
			openA, _ := cal.Open(a, n)
			openB, _ := cal.Open(b, n)
			if got := said(cal.Open(both, n)); got != (verdict{openA && openB, api.OK}) {
				t.Fatalf("the day %d of %v and %v is %v, %v, and %v", n, a, b, openA, openB, got)
			}
		}
	}
}

// Promise 6.6: a calendar that may not be is told ahead of rules that move, these ahead of what the two make together.
func TestJoinRefuses(t *testing.T) {
	var (
		long    = api.Calendar{Rules: make([]api.Rule, 65)}
		bad     = api.Calendar{Weekend: 127}
		moving  = api.Calendar{Weekend: 96, Rules: []api.Rule{with(fixed, move, 1)}}
		nearest = api.Calendar{Weekend: 96, Rules: []api.Rule{easter, with(nth, move, 2)}}
		staying = api.Calendar{Weekend: 96, Rules: []api.Rule{fixed, single}}
		empty   = api.Calendar{}
		most    = api.Calendar{Weekend: 31}
		rest    = api.Calendar{Weekend: 96}
	)
	full := func(c api.Calendar, n int) api.Calendar {
		for len(c.Rules) < n {
			c.Rules = append(slices.Clone(c.Rules), single)
		}
		return c
	}
	for _, x := range []struct {
		name string
		a, b api.Calendar
		e    api.Errno
	}{
		{"the first too long", long, bad, api.ErrLong},
		{"the second too long", empty, long, api.ErrLong},
		{"the first bad", bad, long, api.ErrCal},
		{"the second bad", empty, bad, api.ErrCal},
		{"the first moves", moving, empty, api.ErrCal},
		{"the second moves", empty, nearest, api.ErrCal},
		{"both move by one Weekend", moving, nearest, api.OK},
		{"the first moves by one Weekend", moving, rest, api.OK},
		{"none moves", staying, empty, api.OK},
		{"every weekday", most, rest, api.ErrCal},
		{"all but one weekday", api.Calendar{Weekend: 30}, rest, api.OK},
		{"64 rules", full(moving, 32), full(nearest, 32), api.OK},
		{"65 rules", full(moving, 33), full(nearest, 32), api.ErrLong},
		{"65 rules and every weekday", full(most, 64), full(rest, 1), api.ErrLong},
		{"65 rules that move", full(moving, 64), full(empty, 1), api.ErrCal},
		{"nothing", empty, empty, api.OK},
	} {
		got, e := cal.Join(x.a, x.b)
		if e != x.e {
			t.Errorf("%s: %v, not %v", x.name, e, x.e)
		}
		if e != api.OK && (got.Weekend != 0 || len(got.Rules) != 0) {
			t.Errorf("%s: %v beside %v", x.name, got, e)
		}
	}
}

// Promise 6.6, by the rules of all calls: what is joined is new memory, and what was handed in stays, its spare room too.
func TestJoinIsNew(t *testing.T) {
	room := []api.Rule{fixed, easter, single, nth}
	a, b := api.Calendar{Weekend: 96, Rules: room[:1]}, api.Calendar{Weekend: 96, Rules: room[2:3]}
	for _, pair := range [][2]api.Calendar{{a, b}, {a, {Weekend: 96}}, {{Weekend: 96}, b}} {
		both, e := cal.Join(pair[0], pair[1])
		if e != api.OK || !slices.Equal(room, []api.Rule{fixed, easter, single, nth}) {
			t.Fatalf("%v, %v, and what was handed in is %v", both, e, room)
		}
		for i := range both.Rules {
			both.Rules[i] = api.Rule{}
		}
		for i := range both.Rules[:cap(both.Rules)] {
			both.Rules[:cap(both.Rules)][i] = api.Rule{}
		}
		if !slices.Equal(room, []api.Rule{fixed, easter, single, nth}) {
			t.Fatalf("what was handed in is %v now", room)
		}
	}
}

// Promise 6.10: whatever is handed in, each call ends, and answers nothing beside an error.
func TestEveryCallEnds(t *testing.T) {
	state := uint64(610)
	values := append([]int{-1, 0, 1, 2, 5, 7, 12, 29, 31, 96, 100, 127, 1900, 2199, api.LastDay, api.LastDay + 1}, farOff...)
	value := func() int { return values[scatter(&state)%uint64(len(values))] }
	calendar := func() api.Calendar {
		c := someCalendar(&state, pick(&state, 0, 4))
		if pick(&state, 0, 3) == 0 {
			c.Weekend = value()
		}
		if pick(&state, 0, 3) == 0 {
			c.Rules = append(c.Rules, api.Rule{Kind: pick(&state, 0, 5), Month: value(), Day: value(), N: value(), Weekday: value(), Offset: value(), From: value(), To: value(), Move: value()})
		}
		return c
	}
	for range 3000 {
		c := calendar()
		e, at := cal.Check(c)
		if e == api.OK && at != 0 {
			t.Fatalf("Check(%v) is %v, %d", c, e, at)
		}
		n, k := value(), value()
		for _, got := range []answer{told(cal.Adjust(c, n, k)), told(cal.Adjust(c, n, pick(&state, 0, 4))), told(cal.Add(c, n, k)), told(cal.Count(c, n, k))} {
			if e != api.OK && got.e != e || got.e != api.OK && got.n != 0 {
				t.Fatalf("%v, of which Check tells %v: %v of %d and %d", c, e, got, n, k)
			}
		}
		for _, got := range []verdict{said(cal.Open(c, n)), said(cal.Holiday(c, n))} {
			if e != api.OK && got.e != e || got.e != api.OK && got.is {
				t.Fatalf("%v, of which Check tells %v: %v of %d", c, e, got, n)
			}
		}
		other := calendar()
		both, joined := cal.Join(c, other)
		if e != api.OK && joined != e {
			t.Fatalf("Join(%v, %v) is %v, %v", c, other, both, joined)
		}
		if bad, _ := cal.Check(both); bad != api.OK {
			t.Fatalf("Join(%v, %v) is %v, which may not be", c, other, both)
		}
	}
}
