package acc_test

import (
	"math"
	"math/big"
	"slices"
	"testing"

	"tenor/acc"
	"tenor/ieee"
)

// Promise 3.4: Sum, held against exact arithmetic.
func TestSum(t *testing.T) {
	is(t, "Sum()", acc.Sum(), 0)
	is(t, "Sum(nil)", acc.Sum([]float64(nil)...), 0)
	is(t, "Sum(-0)", acc.Sum(nought), 0)
	is(t, "Sum", acc.Sum(1e308, 1e308, -1e308), 1e308)
	is(t, "Sum", acc.Sum(1, 0x1p-60, -1), 0x1p-60)
	is(t, "Sum", acc.Sum(inf, 1), inf)
	is(t, "Sum", acc.Sum(inf, 1, -inf), nan)
	state := uint64(41)
	for range 500 {
		l := floats(&state, int(scatter(&state)%30))
		want := newExact()
		for _, x := range l {
			want.add(x)
		}
		is(t, "Sum", acc.Sum(l...), want.over(1))
	}
}

// Promise 3.4: Dot, held against exact arithmetic; false of two lengths.
func TestDot(t *testing.T) {
	state := uint64(42)
	for range 500 {
		n := int(scatter(&state) % 20)
		x, y := floats(&state, n), floats(&state, n)
		want := newExact()
		for i := range x {
			want.prod(x[i], y[i])
		}
		d, ok := acc.Dot(x, y)
		if !ok {
			t.Fatal("Dot: false")
		}
		is(t, "Dot", d, want.over(1))
	}
	for _, c := range [...][2][]float64{{nil, nil}, {{}, nil}, {nil, {}}} {
		d, ok := acc.Dot(c[0], c[1])
		if !ok {
			t.Error("Dot of nothing: false")
		}
		is(t, "Dot of nothing", d, 0)
	}
	for _, c := range [...][2][]float64{{{1}, nil}, {nil, {1}}, {{1, 2}, {1}}, {{1}, {1, 2}}, {{nan}, {1, 2}}} {
		d, ok := acc.Dot(c[0], c[1])
		if ok {
			t.Errorf("Dot(%v, %v): true", c[0], c[1])
		}
		is(t, "beside a false", d, 0)
	}
	d, _ := acc.Dot([]float64{1, 2}, []float64{3, 4})
	is(t, "Dot", d, 11)
	d, _ = acc.Dot([]float64{1 + 0x1p-52, -1}, []float64{1 - 0x1p-52, 1})
	is(t, "a product that is not rounded", d, -0x1p-104)
}

// Promise 3.5: Left by single steps.
func TestLeft(t *testing.T) {
	for _, c := range [...]struct {
		l    []float64
		want float64
	}{
		{nil, 0}, {[]float64{}, 0}, {[]float64{nought}, 0}, {[]float64{nought, nought}, 0}, {[]float64{-3}, -3},
		{[]float64{1e308, 1e308, -1e308}, inf}, {[]float64{1, 0x1p-60, -1}, 0}, {[]float64{1, -1, 0x1p-60}, 0x1p-60},
		{[]float64{1, 0x1p-53, 0x1p-53}, 1}, {[]float64{0x1p-53, 0x1p-53, 1}, 1 + 0x1p-52},
		{[]float64{inf, -inf}, nan}, {[]float64{nan, 1}, nan}, {[]float64{-inf, 1}, -inf},
	} {
		is(t, "Left", acc.Left(c.l), c.want)
	}
}

// rounded is near of the sum of two numbers, by exact arithmetic.
func rounded(x, y float64) float64 {
	r := new(big.Rat).Add(new(big.Rat).SetFloat64(x), new(big.Rat).SetFloat64(y))
	s, _ := r.Float64()
	return s
}

// Promise 3.5: Left and Pair of numbers, held against steps that are rounded by exact arithmetic.
func TestStepsAreRoundedOneByOne(t *testing.T) {
	state := uint64(43)
	for range 300 {
		l := make([]float64, scatter(&state)%12)
		for i := range l {
			l[i] = math.Ldexp(float64(int64(scatter(&state))>>11), -int(scatter(&state)%60))
		}
		left := 0.0
		for _, x := range l {
			left = rounded(left, x)
		}
		is(t, "Left", acc.Left(l), left)
		var pair func(l []float64) float64
		pair = func(l []float64) float64 {
			if len(l) < 2 {
				return append(l, 0)[0]
			}
			h := (len(l) - len(l)%2) / 2
			return rounded(pair(slices.Clone(l[:h])), pair(slices.Clone(l[h:])))
		}
		is(t, "Pair", acc.Pair(l), pair(slices.Clone(l)))
	}
}

// Promise 3.5: Pair of none, of one, and where the halves are told apart.
func TestPair(t *testing.T) {
	for _, c := range [...]struct {
		l    []float64
		want float64
	}{
		{nil, 0}, {[]float64{}, 0}, {[]float64{nought}, nought}, {[]float64{nought, nought}, nought}, {[]float64{nan}, nan}, {[]float64{-inf}, -inf},
		{[]float64{1, 2, 3, 4, 5}, 15},
		{[]float64{1, 0x1p-53, 0x1p-53}, 1 + 0x1p-52}, // the first half is the lesser one: 1 and 2^-52
		{[]float64{0x1p-53, 0x1p-53, 1}, 1},
		{[]float64{1, 0x1p-53, 0x1p-53, 0x1p-53}, 1 + 0x1p-52},
		{[]float64{1e308, 1e308, -1e308, -1e308}, nan},
		{[]float64{1e308, -1e308, 1e308, -1e308}, 0},
		{[]float64{1, 0x1p-60, -1}, 0},
		{[]float64{0x1p53, 1, 1, 1, 1}, 0x1p53 + 4},    // 2^53 and 3
		{[]float64{0x1p53, 1, 1, 1, 1, 1}, 0x1p53 + 4}, // 2^53 + 2 and 3
	} {
		is(t, "Pair", acc.Pair(c.l), c.want)
	}
}

// Promise 3.5: Kahan, with both branches, and where a NaN takes the second.
func TestKahan(t *testing.T) {
	for _, c := range [...]struct {
		l    []float64
		want float64
	}{
		{nil, 0}, {[]float64{}, 0}, {[]float64{nought}, 0}, {[]float64{2}, 2},
		{[]float64{1, 0x1p-60, -1}, 0x1p-60},
		{[]float64{0x1p-60, 1, -1}, 0x1p-60},
		{[]float64{1, 1e100, 1, -1e100}, 2},
		{[]float64{1e100, 1, -1e100, 1}, 2},
		{[]float64{-1, 0x1p-60, 1}, 0x1p-60},
		{[]float64{inf}, nan}, // (Inf - Inf) + 0
		{[]float64{1e308, 1e308, -1e308}, nan},
		{[]float64{nan, 1}, nan}, {[]float64{1, nan}, nan},
	} {
		is(t, "Kahan", acc.Kahan(c.l), c.want)
	}
}

// Promise 3.5: Kahan, each step rounded by exact arithmetic.
func TestKahanBySteps(t *testing.T) {
	state := uint64(44)
	minus := func(x, y float64) float64 { return rounded(x, -y) }
	firsts, seconds := 0, 0
	for range 400 {
		l := make([]float64, scatter(&state)%10)
		for i := range l {
			l[i] = math.Ldexp(float64(int64(scatter(&state))>>11), -int(scatter(&state)%120))
			if i > 0 && scatter(&state)%4 == 0 {
				l[i] = -l[i-1]
			}
		}
		s, c := 0.0, 0.0
		for _, x := range l {
			to := rounded(s, x)
			if new(big.Float).Abs(big.NewFloat(s)).Cmp(new(big.Float).Abs(big.NewFloat(x))) >= 0 {
				c = rounded(c, rounded(minus(s, to), x))
				firsts++
			} else {
				c = rounded(c, rounded(minus(x, to), s))
				seconds++
			}
			s = to
		}
		is(t, "Kahan", acc.Kahan(l), rounded(s, c))
	}
	if firsts < 100 || seconds < 100 {
		t.Error(firsts, seconds)
	}
}

// Promise 3.6: the order makes nothing, nor how the floats and products are cut into Accs.
func TestAnyOrderAndParts(t *testing.T) {
	state := uint64(45)
	for range 150 {
		n := 1 + int(scatter(&state)%25)
		x, y := floats(&state, n), floats(&state, n)
		in := func(a *acc.Acc, i int) {
			if i%3 == 0 {
				a.Add(x[i])
			} else {
				a.Prod(x[i], y[i])
			}
		}
		whole := acc.New()
		for i := range n {
			in(whole, i)
		}
		order := make([]int, n)
		for i := range order {
			j := int(scatter(&state) % uint64(i+1))
			order[i], order[j] = order[j], i
		}
		parts := make([]*acc.Acc, 1+scatter(&state)%5)
		for k := range parts {
			parts[k] = acc.New()
		}
		mixed := acc.New()
		for _, i := range order {
			in(mixed, i)
			in(parts[scatter(&state)%uint64(len(parts))], i)
		}
		merged := acc.New()
		for _, p := range parts {
			merged.Merge(p)
		}
		for _, a := range [...]*acc.Acc{mixed, merged} {
			if !a.Same(whole) || !ieee.Same(a.Value(), whole.Value()) || a.Sign() != whole.Sign() {
				t.Fatalf("%v %v: %v, not %v", x, y, a.Value(), whole.Value())
			}
		}
	}
}

// Promise 3.7: what is added and, turned, added again is gone.
func TestTurnedAndAddedAgain(t *testing.T) {
	state := uint64(46)
	for range 200 {
		a, kept := acc.New(), of(numbers(&state, int(scatter(&state)%4))...)
		for range scatter(&state) % 20 {
			a.Prod(number(&state), number(&state))
			a.Add(number(&state))
		}
		b := a.Copy()
		b.Turn()
		sum := kept.Copy()
		sum.Merge(a)
		sum.Merge(b)
		if !sum.Same(kept) {
			t.Fatalf("%v is left, not %v", sum.Value(), kept.Value())
		}
		a.Merge(b)
		if a.Sign() != 0 || !a.Same(acc.New()) {
			t.Fatalf("%v is left", a.Value())
		}
		is(t, "Value", a.Value(), 0)
	}
}

// Promise 3.8: Value does not fall where the sum rises; Over(1) is Value.
func TestValueRises(t *testing.T) {
	state := uint64(47)
	moved := 0
	for range 100 {
		a := of(numbers(&state, 3)...)
		last := a.Value()
		for range 30 {
			a.Prod(math.Abs(number(&state)), math.Ldexp(1, -int(scatter(&state)%80)))
			x := a.Value()
			if x < last {
				t.Fatalf("%x, then %x", last, x)
			}
			if x > last {
				moved++
			}
			last = x
			y, ok := a.Over(1)
			if !ok {
				t.Fatal("Over(1): false")
			}
			is(t, "Over(1)", y, x)
		}
	}
	if moved < 100 {
		t.Errorf("only %d rose", moved)
	}
	for _, x := range [...]float64{1, least, 0x1p-1022, -1, -0x1p-1022, 0x1p1023} {
		// By quarters of the gap to the next number, so that each tie is met.
		a, last := of(x), x
		gap := ieee.Up(math.Abs(x)) - math.Abs(x)
		for range 40 {
			a.Prod(gap, 0.25)
			if v := a.Value(); v < last {
				t.Fatalf("%x, then %x", last, v)
			} else {
				last = v
			}
		}
		is(t, "ten gaps on", a.Value(), x+10*gap)
	}
}

// Promise 3.8: sums of whole numbers whose sizes together are at most 2^53 are exact in Left and Pair too.
func TestWholeNumbers(t *testing.T) {
	state := uint64(48)
	for range 300 {
		room, sum := int64(1)<<53, int64(0)
		var l []float64
		for room > 0 && len(l) < 60 {
			n := 1 + int64(scatter(&state)%uint64(room))>>(scatter(&state)%8)
			room -= n
			if scatter(&state)%2 == 0 {
				n = -n
			}
			l, sum = append(l, float64(n)), sum+n
		}
		is(t, "Left", acc.Left(l), float64(sum))
		is(t, "Pair", acc.Pair(l), float64(sum))
		is(t, "Sum", acc.Sum(l...), float64(sum))
	}
	is(t, "Left", acc.Left([]float64{0x1p53 - 1, 1}), 0x1p53)
	is(t, "Pair", acc.Pair([]float64{-0x1p53 + 2, -1, -1}), -0x1p53)
}

// Promise 3.9: long lists and every float in every call; lists that are handed in are not changed, nor the room behind them.
func TestCallsEndAndKeepTheirArguments(t *testing.T) {
	state := uint64(49)
	long := floats(&state, 100000)
	l, behind := long[:90000:100000], slices.Clone(long)
	for _, f := range [...]func([]float64) float64{acc.Left, acc.Pair, acc.Kahan, func(l []float64) float64 { return acc.Sum(l...) }} {
		is(t, "the same twice", f(l), f(l))
	}
	if _, ok := acc.Dot(l, l); !ok {
		t.Error("Dot: false")
	}
	for i := range long {
		if !ieee.Same(long[i], behind[i]) {
			t.Fatalf("item %d was changed", i)
		}
	}
	a := acc.New()
	for range 20000 {
		x, y := math.Float64frombits(scatter(&state)), math.Float64frombits(scatter(&state))
		b := acc.New()
		b.Add(x)
		b.Prod(x, y)
		b.Turn()
		a.Merge(b)
		a.Value()
		a.Over(int(scatter(&state)))
	}
}
