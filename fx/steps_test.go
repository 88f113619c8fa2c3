package fx_test

import (
	"math"
	"math/big"
	"slices"
	"testing"

	"tenor/api"
	"tenor/fx"
)

var (
	inf   = math.Inf(1)
	nan   = math.NaN()
	minus = math.Copysign(0, -1)
)

const (
	greatest = math.MaxFloat64
	least    = 0x1p-1074
	top      = 8 // the last currency
)

// scatter is splitmix64: the same numbers in every run.
func scatter(state *uint64) uint64 {
	*state += 0x9e3779b97f4a7c15
	z := *state
	z = (z ^ z>>30) * 0xbf58476d1ce4e5b9
	z = (z ^ z>>27) * 0x94d049bb133111eb
	return z ^ z>>31
}

// below is a whole number from 0 to below n.
func below(state *uint64, n int) int {
	return int(scatter(state) % uint64(n))
}

// mixed is the list in another order.
func mixed[T any](state *uint64, l []T) []T {
	l = slices.Clone(l)
	for i := len(l) - 1; i > 0; i-- {
		j := below(state, i+1)
		l[i], l[j] = l[j], l[i]
	}
	return l
}

// notNumbers is floats that are no numbers; notCurrencies is ints that are no currencies.
func notNumbers() []float64 { return []float64{nan, inf, -inf} }

func notCurrencies() []int {
	return []int{math.MinInt, -1, 0, 9, 256 + 1, 1<<32 + 1, math.MaxInt}
}

// p is a pair, and f a flow.
func p(a, b int, x float64) api.Pair { return api.Pair{A: a, B: b, X: x} }

func f(day int, x float64, cur int) api.Flow { return api.Flow{Day: day, Amount: x, Cur: cur} }

// turned is the pair seen from its other side; X must be a power of 2 that can be turned round.
func turned(x api.Pair) api.Pair { return p(x.B, x.A, 1/x.X) }

// answer is what a call tells.
type answer struct {
	x float64
	e api.Errno
}

func told(x float64, e api.Errno) answer { return answer{x, e} }

func value(x float64) answer { return answer{x, api.OK} }

func wrong(e api.Errno) answer { return answer{e: e} }

func (a answer) is(b answer) bool {
	return a.e == b.e && same(a.x, b.x)
}

func same(x, y float64) bool { return math.Float64bits(x) == math.Float64bits(y) }

func isNumber(x float64) bool { return x-x == 0 }

// rational is the exact value of a number, and near the number nearest to an exact value, of a zero with the value's sign.
func rational(x float64) *big.Rat { return new(big.Rat).SetFloat64(x) }

func near(r *big.Rat) float64 {
	x, _ := r.Float64()
	if x == 0 && r.Sign() < 0 {
		return minus
	}
	return x
}

// times is one step: the exact value, rounded once; of a zero the machine's own, which cannot be off there.
func times(x, y float64) float64 {
	if x == 0 || y == 0 {
		return x * y
	}
	return near(new(big.Rat).Mul(rational(x), rational(y)))
}

// islands is by currency the least one that pairs join it to.
func islands(l []api.Pair) [top + 1]int {
	var g [top + 1]int
	for i := range g {
		g[i] = i
	}
	for range l {
		for _, x := range l {
			least := min(g[x.A], g[x.B])
			g[x.A], g[x.B] = least, least
		}
	}
	return g
}

// stepNew is 23.1: what is wrong, and with which pair.
func stepNew(l []api.Pair) (api.Errno, int) {
	if len(l) > 28 {
		return api.ErrLong, 0
	}
	for i, x := range l {
		if x.A < 1 || x.A > top || x.B < 1 || x.B > top {
			return api.ErrCur, i
		}
		if x.A == x.B {
			return api.ErrArg, i
		}
		if !isNumber(x.X) || !(x.X > 0) {
			return api.ErrValue, i
		}
		if g := islands(l[:i]); g[x.A] == g[x.B] {
			return api.ErrLoop, i
		}
	}
	return api.OK, 0
}

// stepCross is 23.2: what one of a is in each currency that it can reach, spread over the pairs till nothing is new.
func stepCross(l []api.Pair, a, b int) answer {
	if a < 1 || a > top || b < 1 || b > top {
		return wrong(api.ErrCur)
	}
	one := map[int]*big.Rat{a: rational(1)}
	for range l {
		for _, x := range l {
			if one[x.A] != nil && one[x.B] == nil {
				one[x.B] = new(big.Rat).Mul(one[x.A], rational(x.X))
			} else if one[x.B] != nil && one[x.A] == nil {
				one[x.A] = new(big.Rat).Quo(one[x.B], rational(x.X))
			}
		}
	}
	if one[b] == nil {
		return wrong(api.ErrPath)
	}
	x := near(one[b])
	if x == 0 || !isNumber(x) {
		return wrong(api.ErrValue)
	}
	return value(x)
}

// stepCheck is 14.1, and 23.3's question whether to is a currency.
func stepCheck(l []api.Flow, to int) api.Errno {
	if len(l) > 4096 {
		return api.ErrMany
	}
	for _, x := range l {
		switch {
		case x.Day < 0 || x.Day > 109572:
			return api.ErrRange
		case !isNumber(x.Amount):
			return api.ErrValue
		case x.Cur < 1 || x.Cur > top:
			return api.ErrCur
		}
	}
	if to < 1 || to > top {
		return api.ErrCur
	}
	return api.OK
}

// stepConvert is the first half of 23.3.
func stepConvert(pairs []api.Pair, l []api.Flow, to int) ([]api.Flow, api.Errno) {
	if e := stepCheck(l, to); e != api.OK {
		return nil, e
	}
	var all []api.Flow
	for _, x := range l {
		one := stepCross(pairs, x.Cur, to)
		if one.e != api.OK {
			return nil, one.e
		}
		amount := times(x.Amount, one.x)
		if !isNumber(amount) {
			return nil, api.ErrValue
		}
		all = append(all, f(x.Day, amount, to))
	}
	return all, api.OK
}

// stepSum is the second half of 23.3.
func stepSum(pairs []api.Pair, l []api.Flow, to int) answer {
	if e := stepCheck(l, to); e != api.OK {
		return wrong(e)
	}
	sum := new(big.Rat)
	for _, x := range l {
		one := stepCross(pairs, x.Cur, to)
		if one.e != api.OK {
			return one
		}
		sum.Add(sum, new(big.Rat).Mul(rational(x.Amount), rational(one.x)))
	}
	if x := near(sum); isNumber(x) {
		return value(x)
	}
	return wrong(api.ErrValue)
}

// table is the table of pairs that may be.
func table(t *testing.T, l ...api.Pair) *fx.Table {
	t.Helper()
	x, e, at := fx.New(l)
	if x == nil || e != api.OK || at != 0 {
		t.Fatalf("New(%v) is %v, %v, %d", l, x, e, at)
	}
	return x
}

// checkNew holds that New answers that error at that place, and nothing beside it.
func checkNew(t *testing.T, l []api.Pair, want api.Errno, place int) {
	t.Helper()
	x, e, at := fx.New(l)
	if e != want || at != place || (x != nil) != (want == api.OK) {
		t.Errorf("New(%v) is %v, %v, %d, not %v, %d", l, x, e, at, want, place)
	}
}

// checkCross, checkJoined, checkConvert and checkSum hold one answer each.
func checkCross(t *testing.T, l []api.Pair, a, b int, want answer) {
	t.Helper()
	if got := told(table(t, l...).Cross(a, b)); !got.is(want) {
		t.Errorf("%v: Cross(%d, %d) is %x, %v, not %x, %v", l, a, b, got.x, got.e, want.x, want.e)
	}
}

func checkJoined(t *testing.T, l []api.Pair, a, b int, want bool, wrong api.Errno) {
	t.Helper()
	if is, e := table(t, l...).Joined(a, b); is != want || e != wrong {
		t.Errorf("%v: Joined(%d, %d) is %v, %v, not %v, %v", l, a, b, is, e, want, wrong)
	}
}

func checkConvert(t *testing.T, pairs []api.Pair, l []api.Flow, to int, want []api.Flow, wrong api.Errno) {
	t.Helper()
	got, e := table(t, pairs...).Convert(l, to)
	if e != wrong || !sameFlows(got, want) {
		t.Errorf("%v: Convert(%x, %d) is %x, %v, not %x, %v", pairs, l, to, got, e, want, wrong)
	}
}

func checkSum(t *testing.T, pairs []api.Pair, l []api.Flow, to int, want answer) {
	t.Helper()
	if got := told(table(t, pairs...).Sum(l, to)); !got.is(want) {
		t.Errorf("%v: Sum(%x, %d) is %x, %v, not %x, %v", pairs, l, to, got.x, got.e, want.x, want.e)
	}
}

// checkRefused holds that Convert and Sum answer that error.
func checkRefused(t *testing.T, pairs []api.Pair, l []api.Flow, to int, want api.Errno) {
	t.Helper()
	checkConvert(t, pairs, l, to, nil, want)
	checkSum(t, pairs, l, to, wrong(want))
}

func sameFlows(a, b []api.Flow) bool {
	return slices.EqualFunc(a, b, func(x, y api.Flow) bool {
		return x.Day == y.Day && x.Cur == y.Cur && same(x.Amount, y.Amount)
	})
}

// someRate is a number above 0: of all exponents, of everyday size, of few bits, of all bits, or an edge.
func someRate(state *uint64) float64 {
	edges := [...]float64{least, 3 * least, 0x1p-1022, 0x1p-1022 - least, 1, 1 + 0x1p-52, 1 - 0x1p-53, 2 - 0x1p-52, 0x1p53 - 1, 0x1p1023, greatest}
	u := scatter(state)
	switch u % 8 {
	case 0:
		return edges[u/8%uint64(len(edges))]
	case 1:
		return math.Ldexp(0x1p53-1, -53+below(state, 20)-10)
	case 2:
		return float64(1 + below(state, 300))
	case 3:
		return math.Ldexp(1, below(state, 2046)-1022)
	case 4:
		return math.Float64frombits(1 + scatter(state)%0x7feffffffffffffe)
	}
	return math.Ldexp(float64(1<<52+scatter(state)>>12), -52+below(state, 24)-12)
}

// someAmount is a number of either sign, now and then a zero.
func someAmount(state *uint64) float64 {
	if below(state, 12) == 0 {
		return math.Copysign(0, float64(below(state, 2))-0.5)
	}
	return math.Copysign(someRate(state), float64(below(state, 2))-0.5)
}

// someTree is pairs that may be, in any order and seen from any side: at most n, and of 7 all that there can be.
func someTree(state *uint64, n int) []api.Pair {
	order := mixed(state, []int{1, 2, 3, 4, 5, 6, 7, 8})
	var l []api.Pair
	for i := 1; i <= n; i++ {
		a, b := order[i], order[below(state, i)]
		if below(state, 4) == 0 {
			b = order[i-1] // long ways
		}
		if below(state, 2) == 0 {
			a, b = b, a
		}
		l = append(l, p(a, b, someRate(state)))
	}
	return mixed(state, l)
}

// plainTree is one whose rates are powers of 2 that can be turned round, and whose products are numbers.
func plainTree(state *uint64, n int) []api.Pair {
	l := someTree(state, n)
	for i := range l {
		l[i].X = math.Ldexp(1, below(state, 281)-140)
	}
	return l
}

// someFlows is n flows in currencies from 1 to last.
func someFlows(state *uint64, n, last int) []api.Flow {
	var l []api.Flow
	for range n {
		l = append(l, f(below(state, 109573), someAmount(state), 1+below(state, last)))
	}
	return l
}
