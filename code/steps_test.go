package code_test

import (
	"math"
	"slices"
	"strings"

	"tenor/api"
	"tenor/code"
	"tenor/date"
	"tenor/deal"
	"tenor/flow"
)

var (
	inf   = math.Inf(1)
	nan   = math.NaN()
	minus = math.Copysign(0, -1)
)

const (
	greatest = math.MaxFloat64
	least    = 0x1p-1074
)

// scatter is splitmix64: the same numbers in every run.
func scatter(state *uint64) uint64 {
	*state += 0x9e3779b97f4a7c15
	z := *state
	z = (z ^ z>>30) * 0xbf58476d1ce4e5b9
	z = (z ^ z>>27) * 0x94d049bb133111eb
	return z ^ z>>31
}

// below is a whole number from 0 to below n.
func below(state *uint64, n int) int {
	return int(scatter(state) % uint64(n))
}

func isNumber(x float64) bool { return x-x == 0 }

func between(n, least, greatest int) bool { return n >= least && n <= greatest }

// ops, terms, flows, verdict and number are the answers of calls.
type ops struct {
	l []api.Op
	e api.Errno
}

type terms struct {
	l []api.Term
	e api.Errno
}

type flows struct {
	l []api.Flow
	e api.Errno
}

type verdict struct {
	e  api.Errno
	at int
}

type number struct {
	n int
	e api.Errno
}

func opsOf(l []api.Op, e api.Errno) ops { return ops{l, e} }

func termsOf(l []api.Term, e api.Errno) terms { return terms{l, e} }

func flowsOf(l []api.Flow, e api.Errno) flows { return flows{l, e} }

func verdictOf(e api.Errno, at int) verdict { return verdict{e, at} }

func numberOf(n int, e api.Errno) number { return number{n, e} }

// is holds two answers against each other to the bit.
func (a ops) is(b ops) bool {
	return a.e == b.e && slices.EqualFunc(a.l, b.l, sameOp)
}

func (a terms) is(b terms) bool {
	return a.e == b.e && slices.EqualFunc(a.l, b.l, func(x, y api.Term) bool {
		bits := math.Float64bits(x.X) == math.Float64bits(y.X) && math.Float64bits(x.Y) == math.Float64bits(y.Y)
		x.X, x.Y, y.X, y.Y = 0, 0, 0, 0
		return bits && x == y
	})
}

func (a flows) is(b flows) bool {
	return a.e == b.e && slices.EqualFunc(a.l, b.l, func(x, y api.Flow) bool {
		return math.Float64bits(x.Amount) == math.Float64bits(y.Amount) && x.Day == y.Day && x.Cur == y.Cur
	})
}

func sameOp(x, y api.Op) bool {
	bits := math.Float64bits(x.X) == math.Float64bits(y.X) && math.Float64bits(x.Y) == math.Float64bits(y.Y)
	x.X, x.Y, y.X, y.Y = 0, 0, 0, 0
	return bits && x == y
}

// Ops for the hand.
func mark() api.Op { return api.Op{Kind: api.OMark} }

func give() api.Op { return api.Op{Kind: api.OGive} }

func scale(x float64) api.Op { return api.Op{Kind: api.OScale, X: x} }

func window(a, b int) api.Op { return api.Op{Kind: api.OWindow, Day: a, To: b} }

func repeat(n, months int) api.Op { return api.Op{Kind: api.ORepeat, N: n, Months: months} }

func pay(x float64) api.Op { return api.Op{Kind: api.OPay, X: x, Cur: 1, Day: 47482} }

func fixed() api.Op {
	return api.Op{Kind: api.OFixed, X: 100, Y: 0.05, Count: api.DEuro, Day: 45000, To: 45365, N: 6, Cur: 2}
}

func list(l ...api.Op) []api.Op { return l }

// times is the code so many times over.
func times(n int, l ...api.Op) []api.Op { return slices.Repeat(l, n) }

func join(l ...[]api.Op) []api.Op { return slices.Concat(l...) }

// letters is code as one letter an op, for short tables: ( a mark, p and f those that add flows, g, S, w and R those that take a mark away; s and r are a scale and a repeat that turn nothing.
func letters(l []api.Op) string {
	var s strings.Builder
	for _, o := range l {
		switch {
		case o.Kind == api.OScale && o.X == 1:
			s.WriteByte('s')
		case o.Kind == api.ORepeat && o.N == 1:
			s.WriteByte('r')
		default:
			s.WriteByte("?(pfgSwR"[o.Kind])
		}
	}
	return s.String()
}

// spelled is the code of such letters.
func spelled(s string) []api.Op {
	var l []api.Op
	for _, c := range s {
		l = append(l, map[rune]api.Op{'(': mark(), 'p': pay(3), 'f': fixed(), 'g': give(), 's': scale(1), 'S': scale(-1), 'w': window(46000, 47000), 'r': repeat(1, 7), 'R': repeat(2, 7)}[c])
	}
	return l
}

// stepNames is 18.1 and 17.1: the op of the named fields alone, and whether these may be.
func stepNames(o api.Op) (api.Op, bool) {
	isDay := func(n int) bool { return between(n, 0, 109572) }
	switch n := (api.Op{Kind: o.Kind}); o.Kind {
	case 1, 4:
		return n, true
	case 2:
		n.X, n.Cur, n.Day = o.X, o.Cur, o.Day
		return n, isNumber(o.X) && between(o.Cur, 1, 8) && isDay(o.Day)
	case 3:
		n.X, n.Y, n.Count, n.Day, n.To, n.N, n.Cur = o.X, o.Y, o.Count, o.Day, o.To, o.N, o.Cur
		return n, isNumber(o.X) && isNumber(o.Y) && between(o.Count, 1, 5) && isDay(o.Day) && isDay(o.To) && o.Day < o.To && between(o.N, 1, 1200) && between(o.Cur, 1, 8)
	case 5:
		n.X = o.X
		return n, isNumber(o.X)
	case 6:
		n.Day, n.To = o.Day, o.To
		return n, isDay(o.Day) && isDay(o.To)
	case 7:
		n.N, n.Months = o.N, o.Months
		return n, between(o.N, 1, 4096) && between(o.Months, 1, 1200)
	}
	return api.Op{}, false
}

// stepCheck is 18.3's Check.
func stepCheck(l []api.Op) verdict {
	if len(l) > 8192 {
		return verdict{api.ErrLong, 0}
	}
	marks := 0
	for i, o := range l {
		n, ok := stepNames(o)
		if !ok || !sameOp(n, o) {
			return verdict{api.ErrCode, i}
		}
		if o.Kind >= 4 {
			marks--
		}
		if marks < 0 {
			return verdict{api.ErrCode, i}
		}
		if o.Kind == 1 {
			marks++
		}
		if marks > 63 {
			return verdict{api.ErrDeep, i}
		}
	}
	if marks != 0 {
		return verdict{api.ErrCode, len(l)}
	}
	return verdict{api.OK, 0}
}

// stepMarks is how many marks there are at most at one time: how deep the marks lie in each other.
func stepMarks(l []api.Op) int {
	most := 0
	for i := 0; i < len(l); i++ {
		if l[i].Kind == 1 {
			end := stepEnd(l, i)
			most = max(most, 1+stepMarks(l[i+1:end]))
			i = end
		}
	}
	return most
}

// stepCompile is 18.2 of the term at that place, by calls.
func stepCompile(t []api.Term, i int) []api.Op {
	x := t[i]
	o := api.Op{X: x.X, Y: x.Y, Day: x.Day, To: x.To, Cur: x.Cur, Count: x.Count, N: x.N, Months: x.Months}
	switch x.Kind {
	case 1:
		return nil
	case 2, 3:
		o.Kind = x.Kind
		return list(o)
	case 5:
		return join(stepCompile(t, x.A), stepCompile(t, x.B))
	}
	o.Kind = []int{4: 4, 6: 5, 7: 6, 8: 7}[x.Kind]
	return join(list(mark()), stepCompile(t, x.A), list(o))
}

// stepEnd is the place of the op that takes away the mark at that place.
func stepEnd(l []api.Op, i int) int {
	open := 1
	for open > 0 {
		i++
		if l[i].Kind == 1 {
			open++
		} else if l[i].Kind >= 4 {
			open--
		}
	}
	return i
}

// stepBack is 18.4's tree, whatever its size, by calls: that of the last piece behind that of all ahead of it.
func stepBack(l []api.Op) []api.Term {
	if len(l) == 0 {
		return []api.Term{{Kind: api.TZero}}
	}
	begin := 0 // of the last piece
	for i := 0; i < len(l); i++ {
		begin = i
		if l[i].Kind == 1 {
			i = stepEnd(l, i)
		}
	}
	o := l[len(l)-1]
	root := api.Term{X: o.X, Y: o.Y, Day: o.Day, To: o.To, Cur: o.Cur, Count: o.Count, N: o.N, Months: o.Months}
	root.Kind = []int{2: 2, 3: 3, 4: 4, 5: 6, 6: 7, 7: 8}[o.Kind]
	var piece []api.Term
	if l[begin].Kind == 1 {
		piece = stepBack(l[begin+1 : len(l)-1])
		root.A = len(piece) - 1
	}
	piece = append(piece, root)
	if begin == 0 {
		return piece
	}
	t := stepBack(l[:begin])
	a, on := len(t)-1, len(t)
	for _, x := range piece {
		if x.Kind >= 4 {
			x.A += on
		}
		if x.Kind == 5 {
			x.B += on
		}
		t = append(t, x)
	}
	return append(t, api.Term{Kind: api.TBoth, A: a, B: len(t) - 1})
}

// stepFind is the places of the ops that 18.5 lets go first, none if there is nothing to do.
func stepFind(l []api.Op) []int {
	begin := map[int]int{}
	for i, o := range l {
		if o.Kind == 1 {
			begin[stepEnd(l, i)] = i
		}
	}
	for i, o := range l {
		m, takes := begin[i]
		switch {
		case !takes:
		case m == i-1, o.Kind == 5 && math.Float64bits(o.X) == 0x3ff0000000000000, o.Kind == 7 && o.N == 1:
			return []int{m, i}
		case o.Kind == 4 && l[i-1].Kind == 4 && begin[i-1] == m+1:
			return []int{m, m + 1, i - 1, i}
		}
	}
	return nil
}

// stepTrim is 18.5, by doing the first that can be done until there is none.
func stepTrim(l []api.Op) []api.Op {
	l = slices.Clone(l)
	for places := stepFind(l); places != nil; places = stepFind(l) {
		for _, p := range slices.Backward(places) {
			l = slices.Delete(l, p, p+1)
		}
	}
	return l
}

// machine is chapter 19's, for what code means: the flows behind each mark are a list of their own, the first list those ahead of all marks.
type machine struct {
	lists [][]api.Flow
	count int // of all flows
}

// stepRun is the flows that code, which may be, means, or the first error.
func stepRun(l []api.Op) flows {
	m := &machine{lists: [][]api.Flow{nil}}
	for _, o := range l {
		if e := m.do(o); e != api.OK {
			return flows{nil, e}
		}
	}
	return flows{m.lists[0], api.OK}
}

func (m *machine) do(o api.Op) (e api.Errno) {
	last := len(m.lists) - 1
	l := m.lists[last]
	switch o.Kind {
	case 1:
		m.lists = append(m.lists, nil)
		return api.OK
	case 2:
		return m.add(api.Flow{Day: o.Day, Amount: o.X, Cur: o.Cur})
	case 3:
		g := api.Leg{Kind: api.LFixed, Count: o.Count, Cur: o.Cur, Notional: o.X, Rate: o.Y}
		g.Spec = api.Spec{Start: o.Day, End: o.To, N: o.N, Unit: api.UMonth, Stub: api.SShortFirst}
		if l, e = flow.Fixed(g); e != api.OK {
			return e
		}
		return m.add(l...)
	case 4:
		m.lists[last] = flow.Give(l)
	case 5:
		m.lists[last], e = flow.Scale(o.X, l)
	case 6:
		m.lists[last] = flow.Window(l, o.Day, o.To)
		m.count += len(m.lists[last]) - len(l)
	case 7:
		e = m.repeat(o, l)
	}
	m.lists[last-1] = append(m.lists[last-1], m.lists[last]...)
	m.lists = m.lists[:last]
	return e
}

func (m *machine) add(l ...api.Flow) api.Errno {
	last := len(m.lists) - 1
	if m.count += len(l); m.count > 4096 {
		return api.ErrMany
	}
	m.lists[last] = append(m.lists[last], l...)
	return api.OK
}

func (m *machine) repeat(o api.Op, l []api.Flow) api.Errno {
	for k := 1; k < o.N; k++ {
		for _, f := range l {
			n, e := date.Months(f.Day, k*o.Months, false)
			if m.count == 4096 {
				return api.ErrMany
			}
			if e != api.OK {
				return api.ErrRange
			}
			f.Day = n
			m.add(f)
		}
	}
	return api.OK
}

// someNumber gives numbers: everyday ones, noughts, great ones, small ones.
func someNumber(state *uint64, wild bool) float64 {
	sign := float64(1 - 2*below(state, 2))
	if wild {
		switch below(state, 6) {
		case 0:
			return math.Copysign(0, sign)
		case 1:
			return sign * math.Ldexp(1+float64(scatter(state)>>11)*0x1p-53, below(state, 2046)-1023)
		case 2:
			return sign * float64(1+below(state, 1000)) * least
		case 3:
			return sign * math.Ldexp(1+float64(scatter(state)>>11)*0x1p-53, 500+below(state, 524))
		}
	}
	return sign * float64(below(state, 1000)) / 100
}

// someDay gives days: within few years, at the ends, or any.
func someDay(state *uint64, wild bool) int {
	if wild {
		switch below(state, 6) {
		case 0:
			return below(state, 3)
		case 1:
			return 109572 - below(state, 3)
		case 2:
			return below(state, 109573)
		}
	}
	return 45000 + below(state, 3000)
}

// someOp is an op of that kind.
func someOp(state *uint64, kind int, wild bool) api.Op {
	o := api.Op{Kind: kind}
	switch kind {
	case 2:
		o.X, o.Cur, o.Day = someNumber(state, wild), 1+below(state, 8), someDay(state, wild)
	case 3:
		o.X, o.Y, o.Count, o.Cur = someNumber(state, wild), someNumber(state, wild), 1+below(state, 5), 1+below(state, 8)
		o.N = []int{1, 3, 6, 12, 1200, 1 + below(state, 1200)}[below(state, 6)]
		o.Day = min(someDay(state, wild), 109571)
		o.To = o.Day + 1 + below(state, min(109572-o.Day, 900))
		if wild {
			o.To = o.Day + 1 + below(state, 109572-o.Day)
		}
	case 5:
		if o.X = 1; below(state, 3) > 0 {
			o.X = someNumber(state, wild)
		}
	case 6:
		o.Day, o.To = someDay(state, wild), someDay(state, wild)
		if below(state, 4) > 0 {
			o.Day, o.To = min(o.Day, o.To), max(o.Day, o.To)
		}
	case 7:
		o.N, o.Months = 1+below(state, 3), 1+below(state, 14)
		if wild {
			o.N, o.Months = 1+below(state, 4096>>below(state, 13)), 1+below(state, 1200>>below(state, 11))
		}
	}
	return o
}

// someTaker is an op that takes a mark away: many are OGives, so that there are pairs of them.
func someTaker(state *uint64, wild bool) api.Op {
	return someOp(state, []int{4, 4, 4, 5, 5, 6, 7}[below(state, 7)], wild)
}

// someCode is code that may be, of about that length; wild, of ten, says how many of its ops are strange, and steep, of ten, how many are marks.
func someCode(state *uint64, length, wild, steep int) []api.Op {
	var l []api.Op
	marks := 0
	for len(l)+marks < length {
		strange := below(state, 10) < wild
		switch n := below(state, 10); {
		case n < steep && marks < 63:
			l = append(l, mark())
			marks++
		case n < 8 && marks > 0:
			l = append(l, someTaker(state, strange))
			marks--
		default:
			l = append(l, someOp(state, 2+below(state, 8)/7, strange))
		}
	}
	for range marks {
		l = append(l, someTaker(state, below(state, 10) < wild))
	}
	return l
}

// grow puts a tree of at most that depth behind the list, and tells its root's place.
func grow(state *uint64, l *[]api.Term, depth, wild int) int {
	strange := below(state, 10) < wild
	var t api.Term
	switch n := below(state, 10); {
	case n == 0:
		t.Kind = api.TZero
	case n == 1 || depth == 1:
		o := someOp(state, 2+below(state, 8)/7, strange)
		t = api.Term{Kind: o.Kind, X: o.X, Y: o.Y, Day: o.Day, To: o.To, Cur: o.Cur, Count: o.Count, N: o.N}
	case n < 6:
		t.Kind, t.A, t.B = api.TBoth, grow(state, l, depth-1, wild), grow(state, l, depth-1, wild)
	default:
		o := someTaker(state, strange)
		t = api.Term{Kind: []int{4: 4, 5: 6, 6: 7, 7: 8}[o.Kind], X: o.X, Day: o.Day, To: o.To, N: o.N, Months: o.Months}
		t.A = grow(state, l, depth-1, wild)
	}
	*l = append(*l, t)
	return len(*l) - 1
}

// someTree is a tree that may be.
func someTree(state *uint64, depth, wild int) []api.Term {
	var l []api.Term
	grow(state, &l, depth, wild)
	if len(l) > 1024 {
		return []api.Term{{Kind: api.TZero}}
	}
	return l
}

// parsed is the tree of a text that may be.
func parsed(s string) []api.Term {
	t, e, at := deal.Parse(s)
	if e != api.OK {
		panic(s[at:])
	}
	return t
}

// compiled is the code of a text that may be.
func compiled(s string) []api.Op {
	l, _ := code.Compile(parsed(s))
	return l
}
