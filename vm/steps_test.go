package vm_test

import (
	"math"
	"slices"

	"tenor/api"
	"tenor/code"
	"tenor/count"
	"tenor/date"
	"tenor/deal"
	"tenor/sched"
)

var (
	inf   = math.Inf(1)
	nan   = math.NaN()
	minus = math.Copysign(0, -1)
)

const (
	greatest = math.MaxFloat64
	least    = 0x1p-1074
)

// scatter is splitmix64: the same numbers in every run.
func scatter(state *uint64) uint64 {
	*state += 0x9e3779b97f4a7c15
	z := *state
	z = (z ^ z>>30) * 0xbf58476d1ce4e5b9
	z = (z ^ z>>27) * 0x94d049bb133111eb
	return z ^ z>>31
}

// below is a whole number from 0 to below n.
func below(state *uint64, n int) int {
	return int(scatter(state) % uint64(n))
}

// Ops for the hand.
func mark() api.Op { return api.Op{Kind: api.OMark} }

func give() api.Op { return api.Op{Kind: api.OGive} }

func scale(x float64) api.Op { return api.Op{Kind: api.OScale, X: x} }

func window(a, b int) api.Op { return api.Op{Kind: api.OWindow, Day: a, To: b} }

func repeat(n, months int) api.Op { return api.Op{Kind: api.ORepeat, N: n, Months: months} }

func pay(x float64) api.Op { return api.Op{Kind: api.OPay, X: x, Cur: 1, Day: 47482} }

func payOn(day int) api.Op { return api.Op{Kind: api.OPay, X: 1, Cur: 1, Day: day} }

// fixed is interest of 2.5 on 2025-07-15 and on 2026-01-15.
func fixed() api.Op {
	return api.Op{Kind: api.OFixed, X: 100, Y: 0.05, Count: api.DEuro, Day: 45670, To: 46035, N: 6, Cur: 2}
}

// monthly is interest of each month of the first so many years.
func monthly(years int) api.Op {
	to, _ := date.Of(1900+years, 1, 1)
	return api.Op{Kind: api.OFixed, X: 1, Y: 1, Count: api.DEuro, To: to, N: 1, Cur: 1}
}

func list(l ...api.Op) []api.Op { return l }

// times is the code so many times over.
func times(n int, l ...api.Op) []api.Op { return slices.Repeat(l, n) }

func join(l ...[]api.Op) []api.Op { return slices.Concat(l...) }

// filled is code that leaves so many flows, in months from day 0 on: at most 3,600 of them by one repeat.
func filled(n int) []api.Op {
	if n > 3600 {
		return join(filled(3600), filled(n-3600))
	}
	return list(mark(), payOn(0), repeat(n, 1))
}

// f is a flow.
func f(day int, x float64, cur int) api.Flow { return api.Flow{Day: day, Amount: x, Cur: cur} }

// answer is flows that are told, or an error.
type answer struct {
	l []api.Flow
	e api.Errno
}

func told(l []api.Flow, e api.Errno) answer { return answer{l, e} }

func flows(l ...api.Flow) answer { return answer{l, api.OK} }

func wrong(e api.Errno) answer { return answer{nil, e} }

// is holds two answers against each other to the bit.
func (a answer) is(b answer) bool {
	return a.e == b.e && slices.EqualFunc(a.l, b.l, func(x, y api.Flow) bool {
		return math.Float64bits(x.Amount) == math.Float64bits(y.Amount) && x.Day == y.Day && x.Cur == y.Cur
	})
}

// size is how many flows and marks a machine has.
type size struct{ flows, marks int }

func sizeOf(flows, marks int) size { return size{flows, marks} }

// state is a machine's, by another reading of the chapter: the flows behind each mark are a list of their own, the first list those ahead of all marks. A state stays as it is.
type state [][]api.Flow

func (s state) size() size {
	n := 0
	for _, l := range s {
		n += len(l)
	}
	return size{n, len(s) - 1}
}

// with is the state with more flows behind the last mark, if it may have so many.
func (s state) with(l ...api.Flow) (state, api.Errno) {
	if s.size().flows+len(l) > 4096 {
		return nil, api.ErrMany
	}
	last := len(s) - 1
	return append(slices.Clone(s[:last]), slices.Concat(s[last], l)), api.OK
}

// after is the state behind an op, or the op's error.
func (s state) after(o api.Op) (state, api.Errno) {
	switch o.Kind {
	case api.OMark:
		return append(slices.Clone(s), nil), api.OK
	case api.OPay:
		return s.with(f(o.Day, o.X, o.Cur))
	case api.OFixed:
		l, e := stepFixed(o)
		if e != api.OK {
			return nil, e
		}
		return s.with(l...)
	}
	last := len(s) - 1
	l, e := stepTurn(o, s[last], s.size().flows)
	if e != api.OK {
		return nil, e
	}
	return append(slices.Clone(s[:last-1]), slices.Concat(s[last-1], l)), api.OK
}

// stepFixed is 17.4: the interest of each period, of which the last step to the end is the last.
func stepFixed(o api.Op) ([]api.Flow, api.Errno) {
	days, e := sched.Dates(api.Spec{Start: o.Day, End: o.To, N: o.N, Unit: api.UMonth, Stub: api.SShortFirst})
	if e != api.OK {
		return nil, e
	}
	var l []api.Flow
	for i, day := range days[1:] {
		y, _ := count.Year(o.Count, api.Calendar{}, days[i], day)
		x := o.X * o.Y
		x *= y
		if x-x != 0 {
			return nil, api.ErrValue
		}
		l = append(l, f(day, x, o.Cur))
	}
	return l, api.OK
}

// stepTurn is what an op makes of the flows behind its mark, where there are so many in all.
func stepTurn(o api.Op, l []api.Flow, all int) ([]api.Flow, api.Errno) {
	turned := slices.Clone(l)
	switch o.Kind {
	case api.OGive:
		for i := range turned {
			turned[i].Amount = math.Float64frombits(math.Float64bits(turned[i].Amount) ^ 1<<63)
		}
	case api.OScale:
		for i := range turned {
			if turned[i].Amount *= o.X; math.IsInf(turned[i].Amount, 0) {
				return nil, api.ErrValue
			}
		}
	case api.OWindow:
		turned = slices.DeleteFunc(turned, func(x api.Flow) bool { return x.Day < o.Day || x.Day >= o.To })
	case api.ORepeat:
		for i := len(l); i < o.N*len(l); i++ {
			x := l[i%len(l)]
			day, e := date.Months(x.Day, i/len(l)*o.Months, false)
			if all+i-len(l) == 4096 {
				return nil, api.ErrMany
			}
			if e != api.OK {
				return nil, api.ErrRange
			}
			turned = append(turned, f(day, x.Amount, x.Cur))
		}
	}
	return turned, api.OK
}

// course is what a run comes to: its sizes, ahead of the first op and behind each one that was done, and what it tells at its end.
type course struct {
	sizes []size
	tells answer
}

// courseOf is that of code that may be. An op that fails leaves the state as it was.
func courseOf(l []api.Op) course {
	s := state{nil}
	sizes := []size{s.size()}
	for _, o := range l {
		next, e := s.after(o)
		if e != api.OK {
			return course{append(sizes, s.size()), wrong(e)}
		}
		s = next
		sizes = append(sizes, s.size())
	}
	return course{sizes, answer{s[0], api.OK}}
}

// ops is how many ops are done.
func (c course) ops() int { return len(c.sizes) - 1 }

// most is the greatest number of flows, and that of marks.
func (c course) most() size {
	var m size
	for _, s := range c.sizes {
		m = size{max(m.flows, s.flows), max(m.marks, s.marks)}
	}
	return m
}

// someNumber gives numbers: everyday ones, noughts, great ones, small ones.
func someNumber(state *uint64, wild bool) float64 {
	sign := float64(1 - 2*below(state, 2))
	if wild {
		switch below(state, 6) {
		case 0:
			return math.Copysign(0, sign)
		case 1:
			return sign * math.Ldexp(1+float64(scatter(state)>>11)*0x1p-53, below(state, 2046)-1023)
		case 2:
			return sign * float64(1+below(state, 1000)) * least
		case 3:
			return sign * math.Ldexp(1+float64(scatter(state)>>11)*0x1p-53, 500+below(state, 524))
		}
	}
	return sign * float64(below(state, 1000)) / 100
}

// someDay gives days: within few years, at the ends, or any.
func someDay(state *uint64, wild bool) int {
	if wild {
		switch below(state, 6) {
		case 0:
			return below(state, 3)
		case 1:
			return 109572 - below(state, 3)
		case 2:
			return below(state, 109573)
		}
	}
	return 45000 + below(state, 3000)
}

// someOp is an op of that kind.
func someOp(state *uint64, kind int, wild bool) api.Op {
	o := api.Op{Kind: kind}
	switch kind {
	case api.OPay:
		o.X, o.Cur, o.Day = someNumber(state, wild), 1+below(state, 8), someDay(state, wild)
	case api.OFixed:
		o.X, o.Y, o.Count, o.Cur = someNumber(state, wild), someNumber(state, wild), 1+below(state, 5), 1+below(state, 8)
		o.N = []int{1, 3, 6, 12, 1200, 1 + below(state, 1200)}[below(state, 6)]
		o.Day = min(someDay(state, wild), 109571)
		o.To = o.Day + 1 + below(state, min(109572-o.Day, 900))
		if wild {
			o.To = o.Day + 1 + below(state, 109572-o.Day)
		}
	case api.OScale:
		o.X = someNumber(state, wild)
	case api.OWindow:
		o.Day, o.To = someDay(state, wild), someDay(state, wild)
		if below(state, 4) > 0 {
			o.Day, o.To = min(o.Day, o.To), max(o.Day, o.To)
		}
	case api.ORepeat:
		o.N, o.Months = 1+below(state, 3), 1+below(state, 14)
		if wild {
			o.N, o.Months = 1+below(state, 4096>>below(state, 13)), 1+below(state, 1200>>below(state, 11))
		}
	}
	return o
}

// someTaker is an op that takes a mark away.
func someTaker(state *uint64, wild bool) api.Op {
	return someOp(state, []int{api.OGive, api.OScale, api.OWindow, api.ORepeat}[below(state, 4)], wild)
}

// someCode is code that may be, of about that length; wild, of ten, says how many of its ops are strange, and steep, of ten, how many are marks.
func someCode(state *uint64, length, wild, steep int) []api.Op {
	var l []api.Op
	marks := 0
	for len(l)+marks < length {
		strange := below(state, 10) < wild
		switch n := below(state, 10); {
		case n < steep && marks < 63:
			l = append(l, mark())
			marks++
		case n < 8 && marks > 0:
			l = append(l, someTaker(state, strange))
			marks--
		default:
			l = append(l, someOp(state, []int{api.OPay, api.OPay, api.OPay, api.OFixed}[below(state, 4)], strange))
		}
	}
	for range marks {
		l = append(l, someTaker(state, below(state, 10) < wild))
	}
	return l
}

// grow puts a tree of at most that depth behind the list, and tells its root's place.
func grow(state *uint64, l *[]api.Term, depth, wild int) int {
	strange := below(state, 10) < wild
	var t api.Term
	switch n := below(state, 10); {
	case n == 0:
		t.Kind = api.TZero
	case n == 1 || depth == 1:
		o := someOp(state, []int{api.OPay, api.OPay, api.OFixed}[below(state, 3)], strange)
		t = api.Term{Kind: map[int]int{api.OPay: api.TPay, api.OFixed: api.TFixed}[o.Kind], X: o.X, Y: o.Y, Day: o.Day, To: o.To, Cur: o.Cur, Count: o.Count, N: o.N}
	case n < 6:
		t.Kind, t.A, t.B = api.TBoth, grow(state, l, depth-1, wild), grow(state, l, depth-1, wild)
	default:
		o := someTaker(state, strange)
		kind := map[int]int{api.OGive: api.TGive, api.OScale: api.TScale, api.OWindow: api.TWindow, api.ORepeat: api.TRepeat}[o.Kind]
		t = api.Term{Kind: kind, X: o.X, Day: o.Day, To: o.To, N: o.N, Months: o.Months}
		t.A = grow(state, l, depth-1, wild)
	}
	*l = append(*l, t)
	return len(*l) - 1
}

// someTree is a tree that may be.
func someTree(state *uint64, depth, wild int) []api.Term {
	for {
		var l []api.Term
		grow(state, &l, depth, wild)
		if len(l) <= 1024 {
			return l
		}
	}
}

// parsed is the tree of a text that may be.
func parsed(s string) []api.Term {
	t, e, at := deal.Parse(s)
	if e != api.OK {
		panic(s[at:])
	}
	return t
}

// trimmed is the code, of code that may be, without what changes nothing.
func trimmed(l []api.Op) []api.Op {
	short, e := code.Trim(l)
	if e != api.OK {
		panic(e)
	}
	return short
}
