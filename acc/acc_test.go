package acc_test

import (
	"math"
	"math/big"
	"slices"
	"testing"

	"tenor/acc"
	"tenor/ieee"
)

const (
	least    = 0x1p-1074
	greatest = math.MaxFloat64
	unit     = 2148 // every sum is a whole number of 2^-2148
)

var (
	inf    = math.Inf(1)
	nan    = math.NaN()
	nought = math.Copysign(0, -1)
)

// scatter is splitmix64: the same numbers in every run.
func scatter(state *uint64) uint64 {
	*state += 0x9e3779b97f4a7c15
	z := *state
	z = (z ^ z>>30) * 0xbf58476d1ce4e5b9
	z = (z ^ z>>27) * 0x94d049bb133111eb
	return z ^ z>>31
}

// number is one of all exponents, of everyday size, of few bits, or an edge.
func number(state *uint64) float64 {
	edges := [...]float64{0, nought, least, -least, 0x1p-1022, -0x1p-1022, 0x1p-1022 - least, 1, -1, 0x1p53, greatest, -greatest, 0x1p1023, 0x1p970}
	for {
		u := scatter(state)
		x := math.Float64frombits(scatter(state))
		switch u % 8 {
		case 0:
			x = edges[u/8%uint64(len(edges))]
		case 1, 2:
			x = math.Ldexp(float64(int64(u)>>11), -int(u/8%64))
		case 3:
			x = float64(int64(u) >> 55)
		case 4:
			x = math.Ldexp(float64(int64(u)>>40), -1074-int(u/8%20))
		}
		if !math.IsNaN(x) && !math.IsInf(x, 0) {
			return x
		}
	}
}

func numbers(state *uint64, n int) []float64 {
	l := make([]float64, n)
	for i := range l {
		l[i] = number(state)
	}
	return l
}

// floats is numbers, with an infinity or a NaN here and there.
func floats(state *uint64, n int) []float64 {
	l := numbers(state, n)
	for i := range l {
		switch scatter(state) % 40 {
		case 0:
			l[i] = inf
		case 1:
			l[i] = -inf
		case 2:
			if scatter(state)%4 == 0 {
				l[i] = nan
			}
		}
	}
	return l
}

// An exact is what an Acc has to be, by the arithmetic of math/big.
type exact struct {
	units       *big.Int
	up, down, n bool // an infinity of this sign came, a NaN
}

func newExact() *exact {
	return &exact{units: new(big.Int)}
}

// inUnits is x as a whole number of 2^-power.
func inUnits(x float64, power uint) *big.Int {
	f, e := math.Frexp(x)
	n := big.NewInt(int64(math.Ldexp(f, 53)))
	if shift := e - 53 + int(power); shift >= 0 {
		return n.Lsh(n, uint(shift))
	} else {
		return n.Rsh(n, uint(-shift)) // what goes are noughts: x is a whole number of 2^-1074
	}
}

func isNumber(x float64) bool {
	return !math.IsNaN(x) && !math.IsInf(x, 0)
}

func (a *exact) add(x float64) {
	switch {
	case math.IsNaN(x):
		a.n = true
	case x == inf:
		a.up = true
	case x == -inf:
		a.down = true
	default:
		a.units.Add(a.units, inUnits(x, unit))
	}
}

func (a *exact) prod(x, y float64) {
	if !isNumber(x) || !isNumber(y) {
		a.add(x * y)
		return
	}
	a.units.Add(a.units, new(big.Int).Mul(inUnits(x, unit/2), inUnits(y, unit/2)))
}

// over is near of the units divided by n.
func (a *exact) over(n int) float64 {
	switch {
	case a.n, a.up && a.down:
		return nan
	case a.up:
		return inf
	case a.down:
		return -inf
	}
	r := new(big.Rat).SetFrac(a.units, new(big.Int).Lsh(big.NewInt(int64(n)), unit))
	x, _ := r.Float64()
	if x == 0 && a.units.Sign() < 0 {
		return nought
	}
	return x
}

func (a *exact) sign() int {
	switch {
	case a.n, a.up && a.down:
		return 0
	case a.up:
		return 1
	case a.down:
		return -1
	}
	return a.units.Sign()
}

func is(t *testing.T, name string, x, want float64) {
	t.Helper()
	if !ieee.Same(x, want) {
		t.Errorf("%s: %x, not %x", name, x, want)
	}
}

// holds holds all that an Acc tells against the exact one.
func holds(t *testing.T, a *acc.Acc, want *exact) {
	t.Helper()
	is(t, "Value", a.Value(), want.over(1))
	for _, n := range [...]int{1, 2, 3, 10, 1 << 31, 6700417, math.MaxInt64} {
		x, ok := a.Over(n)
		if !ok {
			t.Errorf("Over(%d): false", n)
		}
		is(t, "Over", x, want.over(n))
	}
	if a.Sign() != want.sign() {
		t.Errorf("Sign: %d, not %d", a.Sign(), want.sign())
	}
}

func of(l ...float64) *acc.Acc {
	a := acc.New()
	for _, x := range l {
		a.Add(x)
	}
	return a
}

// Promise 3.1: a new one has the sum 0.
func TestNew(t *testing.T) {
	a := acc.New()
	is(t, "Value", a.Value(), 0)
	if a.Sign() != 0 || !a.Same(acc.New()) {
		t.Error("a new one is not 0")
	}
	x, ok := a.Over(7)
	is(t, "Over", x, 0)
	if !ok {
		t.Error("Over: false")
	}
}

// Promise 3.1: the four states, by every short row of numbers, infinities and NaNs.
func TestStates(t *testing.T) {
	items := [...]float64{1, -1, inf, -inf, nan}
	var tried int
	var row func(l []float64)
	row = func(l []float64) {
		want := newExact()
		for _, x := range l {
			want.add(x)
		}
		holds(t, of(l...), want)
		tried++
		if len(l) == 5 {
			return
		}
		for _, x := range items {
			row(append(slices.Clone(l), x))
		}
	}
	row(nil)
	if tried != 1+5+25+125+625+3125 {
		t.Error(tried)
	}
}

// Promise 3.1: a product with an infinity or a NaN is one step; none stays, and an end stays but for the other.
func TestEndsOfProducts(t *testing.T) {
	items := [...]float64{0, nought, 2, -2, least, greatest, inf, -inf, nan}
	for _, x := range items {
		for _, y := range items {
			if isNumber(x) && isNumber(y) {
				continue
			}
			for _, start := range [...]float64{0, 5, inf, -inf, nan} {
				a, b := of(start), of(start)
				a.Prod(x, y)
				b.Add(x * y)
				if !a.Same(b) || !ieee.Same(a.Value(), b.Value()) {
					t.Errorf("%v and Prod(%v, %v): %v, not %v", start, x, y, a.Value(), b.Value())
				}
			}
		}
	}
	a := of(inf)
	a.Prod(greatest, -greatest)
	is(t, "up and a product", a.Value(), inf)
	a.Prod(-inf, 1)
	is(t, "up and down", a.Value(), nan)
	a.Prod(inf, 1)
	a.Add(1)
	is(t, "none stays", a.Value(), nan)
}

// Promise 3.1: sums that go over the end of the numbers are sums still, and come back.
func TestBeyondTheNumbers(t *testing.T) {
	a := of(greatest, greatest)
	is(t, "twice the greatest", a.Value(), inf)
	a.Add(-greatest)
	is(t, "and back", a.Value(), greatest)
	a = acc.New()
	a.Prod(greatest, greatest)
	a.Prod(least, least)
	a.Prod(-greatest, greatest)
	b := acc.New()
	b.Prod(least, least)
	if !a.Same(b) || a.Sign() != 1 {
		t.Error("the least product was lost beside the greatest")
	}
}

// Promise 3.1: sums and products, held against exact arithmetic after each of them.
func TestAddAndProdAreExact(t *testing.T) {
	state := uint64(31)
	for range 60 {
		a, want := acc.New(), newExact()
		for range 40 {
			if x := number(&state); scatter(&state)%2 == 0 {
				a.Add(x)
				want.add(x)
			} else {
				y := number(&state)
				a.Prod(x, y)
				want.prod(x, y)
			}
			holds(t, a, want)
		}
	}
}

// Promise 3.1: a carry and a borrow go through as many words as there are.
func TestLongCarries(t *testing.T) {
	a, want := acc.New(), newExact()
	for range 3 {
		for _, pair := range [...][2]float64{{greatest, greatest}, {least, -least}, {least, least}, {-greatest, greatest}, {least, -least}, {least, least}, {least, -least}, {1, 1}} {
			a.Prod(pair[0], pair[1])
			want.prod(pair[0], pair[1])
			holds(t, a, want)
		}
	}
}

// Promise 3.2: Merge is as if all had been added; the other one is not changed.
func TestMerge(t *testing.T) {
	state := uint64(32)
	ends := 0
	for range 400 {
		k, l := floats(&state, int(scatter(&state)%8)), floats(&state, int(scatter(&state)%8))
		a, b, all := of(k...), of(l...), of(append(slices.Clone(k), l...)...)
		before := b.Copy()
		a.Merge(b)
		if !a.Same(all) || !ieee.Same(a.Value(), all.Value()) {
			t.Fatalf("%v and %v: %v, not %v", k, l, a.Value(), all.Value())
		}
		if !b.Same(before) {
			t.Fatal("the other one was changed")
		}
		if !isNumber(a.Value()) {
			ends++
		}
	}
	if ends < 40 {
		t.Errorf("only %d with an end", ends)
	}
}

// Promise 3.2: Merge of nil and of itself.
func TestMergeOfNilAndItself(t *testing.T) {
	for _, x := range [...]float64{0, 3, -3, least, greatest, inf, -inf, nan} {
		a := of(x)
		a.Merge(nil)
		if !a.Same(of(x)) {
			t.Errorf("%v and nil: %v", x, a.Value())
		}
		a.Merge(a)
		if !a.Same(of(x, x)) {
			t.Errorf("%v and itself: %v", x, a.Value())
		}
	}
}

// Promises 3.2 and 3.7: there is no end to how great a sum may be.
func TestDoublingHasNoEnd(t *testing.T) {
	for _, x := range [...]float64{1, -1, least, -greatest} {
		a, want := of(x), newExact()
		want.add(x)
		a.Prod(least, least)
		want.prod(least, least)
		for range 7000 {
			a.Merge(a)
			want.units.Lsh(want.units, 1)
		}
		holds(t, a, want)
		b := a.Copy()
		b.Turn()
		a.Add(0.75)
		a.Merge(b)
		if !a.Same(of(0.75)) || !of(0.75).Same(a) {
			t.Errorf("%v: %v is left, not 0.75", x, a.Value())
		}
	}
}

// Promises 3.1 and 3.2: sums of nothing but ones, and of one bit, whose next unit or whose turning needs one more word.
func TestTheLastWordIsLeft(t *testing.T) {
	for _, sign := range [...]float64{1, -1} {
		ones, bit := acc.New(), acc.New()
		exactOnes, exactBit := newExact(), newExact()
		bit.Prod(least, sign*least)
		exactBit.prod(least, sign*least)
		for range 800 {
			ones.Merge(ones)
			ones.Prod(least, sign*least)
			exactOnes.units.Lsh(exactOnes.units, 1)
			exactOnes.prod(least, sign*least)
			more := ones.Copy()
			more.Prod(least, sign*least)
			more.Turn()
			more.Merge(ones)
			want := newExact()
			want.prod(-least, sign*least)
			holds(t, more, want)
			if ones.Sign() != int(sign) {
				t.Fatalf("ones: %d", ones.Sign())
			}
			turned := bit.Copy()
			turned.Turn()
			if turned.Sign() != -int(sign) || turned.Same(bit) {
				t.Fatalf("one bit turned: %d", turned.Sign())
			}
			turned.Merge(bit)
			if !turned.Same(acc.New()) {
				t.Fatal("one bit, turned, is not gone")
			}
			bit.Merge(bit)
			exactBit.units.Lsh(exactBit.units, 1)
		}
		holds(t, ones, exactOnes)
		holds(t, bit, exactBit)
	}
}

// Promise 3.2: Turn turns the sign, and the ends change places.
func TestTurn(t *testing.T) {
	state := uint64(33)
	for range 300 {
		l := floats(&state, 1+int(scatter(&state)%6))
		a, turned := of(l...), acc.New()
		for _, x := range l {
			turned.Add(-x)
		}
		before := a.Copy()
		a.Turn()
		if !a.Same(turned) || !turned.Same(a) {
			t.Fatalf("%v turned: %v, not %v", l, a.Value(), turned.Value())
		}
		a.Turn()
		if !a.Same(before) {
			t.Fatalf("%v turned twice: %v", l, a.Value())
		}
	}
	for _, c := range [...][2]float64{{0, 0}, {nought, 0}, {inf, -inf}, {-inf, inf}, {nan, nan}, {1, -1}, {-least, least}} {
		a := of(c[0])
		a.Turn()
		is(t, "Turn", a.Value(), c[1])
	}
}

// Promise 3.2: all powers of 2, and so those at which a word ends, turned to both sides and added to.
func TestTurnOfPowers(t *testing.T) {
	for power := -1074; power < 1024; power++ {
		for _, x := range [...]float64{math.Ldexp(1, power), -math.Ldexp(1, power)} {
			a, want := of(x), newExact()
			a.Turn()
			if !a.Same(of(-x)) || a.Value() != -x {
				t.Fatalf("%x turned: %x", x, a.Value())
			}
			a.Add(-x)
			a.Turn()
			a.Add(x)
			for range 3 {
				want.add(x)
			}
			holds(t, a, want)
			a.Turn()
			a.Turn()
			holds(t, a, want)
		}
	}
}

// Promises 3.2 and 3.9: a copy has nothing in common with the one that it was made of.
func TestCopy(t *testing.T) {
	state := uint64(34)
	for range 200 {
		l := floats(&state, int(scatter(&state)%6))
		a := of(l...)
		b := a.Copy()
		if !a.Same(b) || !b.Same(a) {
			t.Fatalf("%v: the copy is %v", l, b.Value())
		}
		for range 5 {
			b.Prod(number(&state), number(&state))
			b.Turn()
			b.Merge(b)
		}
		if !a.Same(of(l...)) {
			t.Fatalf("%v: changed by its copy", l)
		}
		c := a.Copy()
		a.Add(1)
		a.Turn()
		a.Merge(b)
		if !c.Same(of(l...)) {
			t.Fatalf("%v: the copy changed with it", l)
		}
	}
}

// Promise 3.9: what was merged has nothing in common with what it was merged to.
func TestMergedShareNothing(t *testing.T) {
	for _, x := range [...]float64{1, -1, greatest, least} {
		a, b := acc.New(), of(x)
		a.Merge(b)
		a.Add(x)
		a.Turn()
		if !b.Same(of(x)) {
			t.Errorf("%v: changed by the one it was merged to", x)
		}
		c := acc.New()
		c.Merge(b)
		b.Add(x)
		b.Add(5)
		if !c.Same(of(x)) {
			t.Errorf("%v: changed with the one that was merged", x)
		}
	}
}

// Promise 3.3: ties to even, the end of the numbers, and what rounds to 0.
func TestValueRoundsOnce(t *testing.T) {
	for _, c := range [...]struct {
		l    []float64
		want float64
	}{
		{[]float64{1, 0x1p-53}, 1},
		{[]float64{1, 0x1p-53, least}, 1 + 0x1p-52},
		{[]float64{1, 0x1p-53, -least}, 1},
		{[]float64{1 + 0x1p-52, 0x1p-53}, 1 + 0x1p-51},
		{[]float64{1 + 0x1p-52, 0x1p-53, -least}, 1 + 0x1p-52},
		{[]float64{-1, -0x1p-53, -least}, -1 - 0x1p-52},
		{[]float64{1, -0x1p-54}, 1},
		{[]float64{1, -0x1p-54, -least}, 1 - 0x1p-53},
		{[]float64{greatest, 0x1p970}, inf},
		{[]float64{greatest, 0x1p970, -least}, greatest},
		{[]float64{-greatest, -0x1p970}, -inf},
		{[]float64{-greatest, -0x1p970, least}, -greatest},
		{[]float64{greatest, 0x1p969}, greatest},
		{[]float64{0x1p-1022, -least}, 0x1p-1022 - least},
		{[]float64{0x1p-1022 - least, least}, 0x1p-1022},
		{[]float64{3, nought}, 3},
		{[]float64{nought, nought}, 0},
		{[]float64{5, -5}, 0},
		{[]float64{-5, 5}, 0},
	} {
		is(t, "Sum", acc.Sum(c.l...), c.want)
		is(t, "Value", of(c.l...).Value(), c.want)
	}
	for _, c := range [...]struct {
		pairs [][2]float64
		want  float64
	}{
		{[][2]float64{{least, 0.5}}, 0},
		{[][2]float64{{least, -0.5}}, nought},
		{[][2]float64{{least, 0.5}, {least, least}}, least},
		{[][2]float64{{least, 0.5}, {least, -least}}, 0},
		{[][2]float64{{least, -0.5}, {least, -least}}, -least},
		{[][2]float64{{least, 1.5}}, 2 * least},
		{[][2]float64{{least, 1.5}, {least, -least}}, least},
		{[][2]float64{{least, least}}, 0},
		{[][2]float64{{-least, least}}, nought},
		{[][2]float64{{0x1p-1022 - least, 1}, {least, 0.5}}, 0x1p-1022},
	} {
		a := acc.New()
		for _, p := range c.pairs {
			a.Prod(p[0], p[1])
		}
		is(t, "Value of products", a.Value(), c.want)
	}
}

// Promise 3.3: every distance between the first bit and the one that breaks a tie.
func TestTiesFarApart(t *testing.T) {
	for _, one := range [...]float64{1, 0x1p1000, 0x1p-960, 0x1p-1000, 0x1p30} {
		for k := 1; k <= 110; k++ {
			for _, half := range [...]float64{0, 1, -1} {
				for _, far := range [...]float64{1, -1} {
					a, want := of(one), newExact()
					want.add(one)
					a.Prod(one, half*0x1p-53)
					want.prod(one, half*0x1p-53)
					a.Prod(one, math.Ldexp(far, -50-k))
					want.prod(one, math.Ldexp(far, -50-k))
					is(t, "Value", a.Value(), want.over(1))
					a.Turn()
					is(t, "Value turned", a.Value(), -want.over(1))
				}
			}
		}
	}
}

// Promise 3.3: Over, at ties that the rest breaks, where it rounds to 0, and where there is no sum.
func TestOver(t *testing.T) {
	for _, c := range [...]struct {
		l    []float64
		n    int
		want float64
	}{
		{[]float64{1}, 3, 0x1.5555555555555p-2},
		{[]float64{-1}, 3, -0x1.5555555555555p-2},
		{[]float64{least}, 2, 0},
		{[]float64{-least}, 2, nought},
		{[]float64{least, least, least}, 2, 2 * least},
		{[]float64{least, least}, 3, least},
		{[]float64{least}, math.MaxInt64, 0},
		{[]float64{-least}, math.MaxInt64, nought},
		{[]float64{greatest, greatest}, 2, greatest},
		{[]float64{greatest, greatest, greatest}, 3, greatest},
		{[]float64{greatest, greatest, greatest}, 2, inf},
		{[]float64{0x1p63}, math.MaxInt64, 1},
		{nil, 5, 0},
		{[]float64{nought}, 5, 0},
		{[]float64{inf}, 5, inf},
		{[]float64{-inf}, 5, -inf},
		{[]float64{inf, -inf}, 5, nan},
	} {
		x, ok := of(c.l...).Over(c.n)
		if !ok {
			t.Errorf("%v over %d: false", c.l, c.n)
		}
		is(t, "Over", x, c.want)
	}
	a := acc.New()
	a.Prod(-least, least)
	x, _ := a.Over(math.MaxInt64)
	is(t, "less than a unit", x, nought)
	for _, n := range [...]int{0, -1, math.MinInt64} {
		for _, start := range [...]float64{0, 1, inf, -inf, nan} {
			x, ok := of(start).Over(n)
			if ok {
				t.Errorf("%v over %d: true", start, n)
			}
			is(t, "beside a false", x, 0)
		}
	}
}

// Promise 3.3: a quotient that lies as near a tie as it can, and is broken by the rest alone.
func TestOverIsBrokenByTheRest(t *testing.T) {
	// Each row is two products that together are a tie: 2^53 + 1, half the least number, one and a half of it.
	ties := [...][2][2]float64{{{0x1p53, 1}, {1, 1}}, {{0, 0}, {least, 0.5}}, {{least, 1}, {least, 0.5}}}
	for _, n := range [...]int{3, 7, 1<<53 + 1, math.MaxInt64} {
		high, low := float64(n>>32)*0x1p32, float64(n&(1<<32-1))
		for _, tie := range ties {
			for _, beside := range [...]float64{-1, 0, 1} {
				for _, sign := range [...]float64{1, -1} {
					a, want := acc.New(), newExact()
					for _, p := range [...][2]float64{
						{high * tie[0][0], tie[0][1]}, {low * tie[0][0], tie[0][1]},
						{high * tie[1][0], tie[1][1]}, {low * tie[1][0], tie[1][1]},
						{beside * least, least},
					} {
						a.Prod(sign*p[0], p[1])
						want.prod(sign*p[0], p[1])
					}
					x, _ := a.Over(n)
					is(t, "Over", x, want.over(n))
				}
			}
		}
	}
}

// Promise 3.3: Sign of the four states.
func TestSign(t *testing.T) {
	for _, c := range [...]struct {
		l    []float64
		want int
	}{
		{nil, 0}, {[]float64{nought}, 0}, {[]float64{least}, 1}, {[]float64{-least}, -1}, {[]float64{greatest, -least}, 1},
		{[]float64{-greatest, least}, -1}, {[]float64{1, -1}, 0}, {[]float64{-1, 1}, 0},
		{[]float64{inf}, 1}, {[]float64{-inf}, -1}, {[]float64{nan}, 0}, {[]float64{inf, -inf}, 0}, {[]float64{-inf, 1e300}, -1},
	} {
		if got := of(c.l...).Sign(); got != c.want {
			t.Errorf("%v: %d, not %d", c.l, got, c.want)
		}
	}
}

// Promise 3.3: Same asks the state and the real, not the way there.
func TestSame(t *testing.T) {
	ones := []*acc.Acc{of(), of(1), of(-1), of(least), of(-least), of(greatest), of(greatest, least), of(1, 0x1p-60), of(inf), of(-inf), of(nan)}
	for i, a := range ones {
		if a.Same(nil) {
			t.Errorf("%v and nil: true", a.Value())
		}
		for j, b := range ones {
			if a.Same(b) != (i == j) {
				t.Errorf("%v and %v: %t", a.Value(), b.Value(), a.Same(b))
			}
		}
	}
	for _, c := range [...][2]*acc.Acc{
		{of(), of(greatest, -greatest)},
		{of(), of(-greatest, greatest)},
		{of(-1), of(-greatest, -1, greatest)},
		{of(1), of(greatest, 1, -greatest)},
		{of(inf), of(7, inf, -7)},
		{of(-inf), of(greatest, -inf)},
		{of(nan), of(inf, -inf, 4)},
		{of(0), of(nought)},
	} {
		if !c[0].Same(c[1]) || !c[1].Same(c[0]) {
			t.Errorf("%v and %v: false", c[0].Value(), c[1].Value())
		}
	}
}
