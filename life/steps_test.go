package life_test

import (
	"math"
	"math/big"
	"slices"
	"testing"

	"tenor/api"
	"tenor/curve"
	"tenor/life"
)

var (
	inf   = math.Inf(1)
	nan   = math.NaN()
	minus = math.Copysign(0, -1)
)

const (
	greatest = math.MaxFloat64
	least    = 0x1p-1074
	end      = 109572 // the last day
)

// scatter is splitmix64: the same numbers in every run.
func scatter(state *uint64) uint64 {
	*state += 0x9e3779b97f4a7c15
	z := *state
	z = (z ^ z>>30) * 0xbf58476d1ce4e5b9
	z = (z ^ z>>27) * 0x94d049bb133111eb
	return z ^ z>>31
}

// below is a whole number from 0 to below n.
func below(state *uint64, n int) int {
	return int(scatter(state) % uint64(n))
}

// unit is a number from 0 to below 1.
func unit(state *uint64) float64 {
	return float64(scatter(state)>>11) * 0x1p-53
}

// kinds is all kinds of curves.
func kinds() []int {
	return []int{api.IFlat, api.ILinear, api.ICubic, api.ILog}
}

// notNumbers is floats that are no numbers; notCurrencies and notDays are ints that are no currencies, and no days.
func notNumbers() []float64 { return []float64{nan, inf, -inf} }

func notCurrencies() []int {
	return []int{math.MinInt, -1, 0, 9, 256 + 1, 1<<32 + 1, math.MaxInt}
}

func notDays() []int {
	return []int{math.MinInt, -1 << 32, -1, end + 1, 1<<32 + 10, math.MaxInt}
}

// f is a flow, and pay one in the currency 1.
func f(day int, x float64, cur int) api.Flow { return api.Flow{Day: day, Amount: x, Cur: cur} }

func pay(day int, x float64) api.Flow { return f(day, x, 1) }

// answer is what a call tells.
type answer struct {
	x float64
	e api.Errno
}

func told(x float64, e api.Errno) answer { return answer{x, e} }

func value(x float64) answer { return answer{x, api.OK} }

func wrong(e api.Errno) answer { return answer{e: e} }

func (a answer) is(b answer) bool { return a.e == b.e && same(a.x, b.x) }

func same(x, y float64) bool { return math.Float64bits(x) == math.Float64bits(y) }

func sameFlows(a, b []api.Flow) bool {
	return slices.EqualFunc(a, b, func(x, y api.Flow) bool {
		return x.Day == y.Day && x.Cur == y.Cur && same(x.Amount, y.Amount)
	})
}

func sameCurve(a, b api.Curve) bool {
	return a.Base == b.Base && a.Kind == b.Kind && slices.Equal(a.Days, b.Days) && slices.EqualFunc(a.Factors, b.Factors, same)
}

func isNumber(x float64) bool { return x-x == 0 }

// rational is the exact value of a number, and near the number nearest to an exact value, of a zero with the value's sign.
func rational(x float64) *big.Rat { return new(big.Rat).SetFloat64(x) }

func near(r *big.Rat) float64 {
	x, _ := r.Float64()
	if x == 0 && r.Sign() < 0 {
		return minus
	}
	return x
}

// number is near of a sum, or ErrValue, if that is none.
func number(r *big.Rat) answer {
	if x := near(r); isNumber(x) {
		return value(x)
	}
	return wrong(api.ErrValue)
}

// past is the chapter's ledger in another way: it throws nothing away, and finds by the days what is left and what was paid.
type past struct {
	cur, day int
	all      []api.Flow
}

// stepCheck is 14.1 without the place.
func stepCheck(l []api.Flow) api.Errno {
	if len(l) > 4096 {
		return api.ErrMany
	}
	for _, x := range l {
		switch {
		case x.Day < 0 || x.Day > end:
			return api.ErrRange
		case !isNumber(x.Amount):
			return api.ErrValue
		case x.Cur < 1 || x.Cur > 8:
			return api.ErrCur
		}
	}
	return api.OK
}

// stepNew is the first half of 24.1.
func stepNew(l []api.Flow, cur, day int) (*past, api.Errno) {
	if e := stepCheck(l); e != api.OK {
		return nil, e
	}
	if cur < 1 || cur > 8 {
		return nil, api.ErrCur
	}
	if day < 0 || day > end {
		return nil, api.ErrRange
	}
	p := &past{cur: cur, day: day}
	if e := p.Add(l); e != api.OK {
		return nil, e
	}
	return p, api.OK
}

// Add is the second half of 24.1.
func (p *past) Add(l []api.Flow) api.Errno {
	if e := stepCheck(l); e != api.OK {
		return e
	}
	more := slices.Clone(p.all)
	for _, x := range l {
		if x.Cur == p.cur && x.Day < p.day {
			return api.ErrPast
		}
		if x.Cur == p.cur {
			more = append(more, x)
		}
	}
	if len(between(more, p.day, end+1)) > 4096 {
		return api.ErrMany
	}
	p.all = more
	return api.OK
}

// Pass is 24.2.
func (p *past) Pass(n int) ([]api.Flow, api.Errno) {
	if n < 0 || n > end {
		return nil, api.ErrRange
	}
	if n < p.day {
		return nil, api.ErrPast
	}
	paid := between(p.all, p.day, n)
	p.day = n
	return paid, api.OK
}

// between is the flows from the day a on, ahead of the day b.
func between(l []api.Flow, a, b int) []api.Flow {
	var inside []api.Flow
	for _, x := range l {
		if x.Day >= a && x.Day < b {
			inside = append(inside, x)
		}
	}
	return inside
}

// Day, Left, Cash and Worth are 24.3, the sums in rationals.
func (p *past) Day() int { return p.day }

func (p *past) Left() []api.Flow { return between(p.all, p.day, end+1) }

func (p *past) sum() *big.Rat {
	sum := new(big.Rat)
	for _, x := range between(p.all, 0, p.day) {
		sum.Add(sum, rational(x.Amount))
	}
	return sum
}

func (p *past) Cash() (float64, api.Errno) {
	a := number(p.sum())
	return a.x, a.e
}

func (p *past) Worth(c api.Curve) (float64, api.Errno) {
	if e := curve.Check(c); e != api.OK {
		return 0, e
	}
	if c.Base != p.day {
		return 0, api.ErrRange
	}
	sum := p.sum()
	for _, x := range p.Left() {
		factor, e := curve.Factor(c, x.Day)
		if e != api.OK {
			return 0, e
		}
		sum.Add(sum, new(big.Rat).Mul(rational(x.Amount), rational(factor)))
	}
	a := number(sum)
	return a.x, a.e
}

func (p *past) copied() *past { return &past{p.cur, p.day, slices.Clone(p.all)} }

// stepRoll is 24.4, its quotients in rationals, each rounded once.
func stepRoll(c api.Curve, n int) (api.Curve, api.Errno) {
	if e := curve.Check(c); e != api.OK {
		return api.Curve{}, e
	}
	if n < c.Base || n >= c.Days[len(c.Days)-1] {
		return api.Curve{}, api.ErrRange
	}
	then, e := curve.Factor(c, n)
	if e != api.OK {
		return api.Curve{}, e
	}
	r := api.Curve{Base: n, Kind: c.Kind}
	for i := len(c.Days) - 1; i >= 0 && c.Days[i] > n; i-- {
		x := near(new(big.Rat).Quo(rational(c.Factors[i]), rational(then)))
		if x == 0 || !isNumber(x) {
			return api.Curve{}, api.ErrValue
		}
		r.Days, r.Factors = append([]int{c.Days[i]}, r.Days...), append([]float64{x}, r.Factors...)
	}
	return r, api.OK
}

// teller is what a ledger can be asked.
type teller interface {
	Day() int
	Left() []api.Flow
	Cash() (float64, api.Errno)
	Worth(c api.Curve) (float64, api.Errno)
}

// checkSame holds what a ledger tells against what another one tells.
func checkSame(t *testing.T, got, want teller) {
	t.Helper()
	if got.Day() != want.Day() || !sameFlows(got.Left(), want.Left()) {
		t.Fatalf("at %d with %x left, not at %d with %x", got.Day(), got.Left(), want.Day(), want.Left())
	}
	if a, b := told(got.Cash()), told(want.Cash()); !a.is(b) {
		t.Fatalf("Cash is %x, %v, not %x, %v", a.x, a.e, b.x, b.e)
	}
	for _, c := range from(want.Day()) {
		if a, b := told(got.Worth(c)), told(want.Worth(c)); !a.is(b) {
			t.Fatalf("Worth(%v) is %x, %v, not %x, %v", c, a.x, a.e, b.x, b.e)
		}
	}
}

// from is some curves from that day on, one that ends early, and one that begins on another day.
func from(day int) []api.Curve {
	if day == end {
		return []api.Curve{{Base: day - 1, Kind: api.IFlat, Days: []int{day}, Factors: []float64{0.5}}}
	}
	return []api.Curve{
		{Base: day, Kind: api.ILinear, Days: []int{end}, Factors: []float64{0.3}},
		{Base: day, Kind: api.IFlat, Days: []int{day + 1}, Factors: []float64{0.7}},
		{Base: max(0, day-1), Kind: api.IFlat, Days: []int{end}, Factors: []float64{0.3}},
	}
}

// made is a ledger that may be.
func made(t *testing.T, l []api.Flow, cur, day int) *life.Ledger {
	t.Helper()
	x, e := life.New(l, cur, day)
	if x == nil || e != api.OK {
		t.Fatalf("New(%v, %d, %d) is %v, %v", l, cur, day, x, e)
	}
	return x
}

// checkNew holds that New answers that error, and nothing beside it.
func checkNew(t *testing.T, l []api.Flow, cur, day int, want api.Errno) {
	t.Helper()
	if x, e := life.New(l, cur, day); e != want || (x != nil) != (want == api.OK) {
		t.Errorf("New of %d flows in %d at %d is %v, %v, not %v", len(l), cur, day, x, e, want)
	}
}

// checkAdd, checkPass, checkCash and checkWorth hold one answer each; a refusal must leave the ledger as it was.
func checkAdd(t *testing.T, x *life.Ledger, l []api.Flow, want api.Errno) {
	t.Helper()
	before := x.Copy()
	if e := x.Add(l); e != want {
		t.Errorf("Add of %d flows is %v, not %v", len(l), e, want)
	}
	if want != api.OK {
		checkSame(t, x, before)
	}
}

func checkPass(t *testing.T, x *life.Ledger, n int, want []api.Flow, wrong api.Errno) {
	t.Helper()
	before := x.Copy()
	if l, e := x.Pass(n); e != wrong || !sameFlows(l, want) {
		t.Errorf("Pass(%d) is %x, %v, not %x, %v", n, l, e, want, wrong)
	}
	if wrong != api.OK {
		checkSame(t, x, before)
	} else if x.Day() != n {
		t.Errorf("behind Pass(%d) the day is %d", n, x.Day())
	}
}

func checkLeft(t *testing.T, x *life.Ledger, want ...api.Flow) {
	t.Helper()
	if l := x.Left(); !sameFlows(l, want) {
		t.Errorf("Left is %x, not %x", l, want)
	}
}

func checkCash(t *testing.T, x *life.Ledger, want answer) {
	t.Helper()
	if got := told(x.Cash()); !got.is(want) {
		t.Errorf("Cash is %x, %v, not %x, %v", got.x, got.e, want.x, want.e)
	}
}

func checkWorth(t *testing.T, x *life.Ledger, c api.Curve, want answer) {
	t.Helper()
	if got := told(x.Worth(c)); !got.is(want) {
		t.Errorf("Worth(%v) is %x, %v, not %x, %v", c, got.x, got.e, want.x, want.e)
	}
}

// checkRoll holds one answer of Roll.
func checkRoll(t *testing.T, c api.Curve, n int, want api.Curve, wrong api.Errno) {
	t.Helper()
	if r, e := life.Roll(c, n); e != wrong || !sameCurve(r, want) {
		t.Errorf("Roll(%v, %d) is %x, %v, not %x, %v", c, n, r, e, want, wrong)
	}
}

// refusedRoll holds that Roll answers that error.
func refusedRoll(t *testing.T, c api.Curve, n int, want api.Errno) {
	t.Helper()
	checkRoll(t, c, n, api.Curve{}, want)
}

// someAmount gives amounts: everyday ones, most often, noughts, great ones, small ones.
func someAmount(state *uint64) float64 {
	sign := float64(1 - 2*below(state, 2))
	switch below(state, 9) {
	case 0:
		return math.Copysign(0, sign)
	case 1:
		return sign * math.Ldexp(1+unit(state), below(state, 2046)-1023)
	case 2:
		return sign * math.Ldexp(1+unit(state), 1023)
	case 3:
		return sign * float64(1+below(state, 1000)) * least
	}
	return sign * float64(below(state, 100000)) / 100
}

// someFlows is n flows in the currencies 1 to 3 on days from a on, ahead of b.
func someFlows(state *uint64, n, a, b int) []api.Flow {
	var l []api.Flow
	for range n {
		l = append(l, f(a+below(state, b-a), someAmount(state), 1+below(state, 3)))
	}
	return l
}

// inCur is those of the flows that are in that currency.
func inCur(l []api.Flow, cur int) []api.Flow {
	return slices.DeleteFunc(slices.Clone(l), func(x api.Flow) bool { return x.Cur != cur })
}

// someFactor gives factors of one sort: everyday ones, few that come again, of all sizes, those at the ends of the numbers.
func someFactor(state *uint64, sort int) float64 {
	switch sort {
	case 0:
		return 0.3 + unit(state)
	case 1:
		return float64(1+below(state, 6)) / 4
	case 2:
		return math.Ldexp(1+unit(state), below(state, 2046)-1023)
	}
	return math.Ldexp(1+unit(state), []int{-1074, -1073, -1060, -1023, -2, -1, 0, 1, 1022, 1023}[below(state, 10)])
}

// someCurve is a curve of that kind that may be, now and then with factors that never rise.
func someCurve(state *uint64, kind int) api.Curve {
	n := 1 + below(state, 9)
	gap := []int{2, 12, 400, end / (n + 1)}[below(state, 4)]
	c := api.Curve{Base: below(state, end+1-n*gap), Kind: kind}
	day, sort := c.Base, below(state, 4)
	for range n {
		day += 1 + below(state, gap)
		c.Days, c.Factors = append(c.Days, day), append(c.Factors, someFactor(state, sort))
	}
	if below(state, 2) == 0 {
		fall(&c)
	}
	return c
}

// fall makes the curve one whose factors never rise, from 1 on.
func fall(c *api.Curve) {
	for i, x := range c.Factors {
		if x > 1 {
			c.Factors[i] = max(1/x, least)
		}
	}
	slices.Sort(c.Factors)
	slices.Reverse(c.Factors)
}

// last is the curve's last day.
func last(c api.Curve) int { return c.Days[len(c.Days)-1] }

// badCurve is a curve that may not be, and its error.
type badCurve struct {
	c api.Curve
	e api.Errno
}

// badCurves is such curves at that base, where it is not the base that is bad; of two errors the first one is told.
func badCurves(base int) []badCurve {
	days, factors := []int{base + 10, base + 20}, []float64{0.5, 0.25}
	with := func(days []int, factors []float64) badCurve {
		return badCurve{api.Curve{Base: base, Kind: api.ILinear, Days: days, Factors: factors}, api.ErrNodes}
	}
	long := with(nil, nil)
	for i := range 256 {
		long.c.Days, long.c.Factors = append(long.c.Days, base+1+i), append(long.c.Factors, 0.5)
	}
	return []badCurve{
		{api.Curve{Base: -1, Kind: api.ILinear, Days: days, Factors: factors}, api.ErrRange},
		{api.Curve{Base: end + 1, Kind: 9, Days: days, Factors: factors}, api.ErrRange},
		{api.Curve{Base: base, Kind: 0, Days: days, Factors: factors}, api.ErrKind},
		{api.Curve{Base: base, Kind: 5}, api.ErrKind},
		long,
		with(nil, nil),
		with(days, factors[:1]),
		with(days[:1], factors),
		with([]int{base, base + 10}, factors),
		with([]int{base + 10, base + 10}, factors),
		with([]int{base + 10, end + 1}, factors),
		with(days, []float64{0.5, 0}),
		with(days, []float64{-0.5, 0.25}),
		with(days, []float64{nan, 0.25}),
		with(days, []float64{0.5, inf}),
	}
}
