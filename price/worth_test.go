package price_test

import (
	"math/big"
	"slices"
	"testing"

	"tenor/api"
	"tenor/flow"
	"tenor/price"
)

// of is the worth of flows that have one.
func of(t *testing.T, l []api.Flow, cur int, c api.Curve) *price.Worth {
	t.Helper()
	w, e := price.Of(l, cur, c)
	if e != api.OK {
		t.Fatalf("Of(%v, %d, %v): %v", l, cur, c, e)
	}
	return w
}

// checkWorth holds that w is worth r, exactly, in all that it tells.
func checkWorth(t *testing.T, w *price.Worth, r *big.Rat) {
	t.Helper()
	if w == nil {
		t.Fatalf("no worth, not %v", r)
	}
	if !value(w.Value()).is(value(near(r))) || w.Sign() != r.Sign() {
		t.Errorf("the worth of %v tells %x, the sign %d", r, w.Value(), w.Sign())
	}
	if other := worthOf(t, r); !w.Same(other) || !other.Same(w) || !w.Same(w) {
		t.Errorf("%v is not %v", w, r)
	}
}

// Promise 15.1: Nothing is 0, and each one is its own.
func TestNothing(t *testing.T) {
	n := price.Nothing()
	checkWorth(t, n, new(big.Rat))
	if !value(n.Value()).is(value(0)) || n.Sign() != 0 || !n.Same(price.Nothing()) || n == price.Nothing() {
		t.Errorf("Nothing is %v", n)
	}
	c, l := given()
	for _, m := range [][]api.Flow{nil, {}, {pay(3, 0)}, {pay(3, minus)}, {f(3, 1, 2)}, slices.Concat(l, flow.Give(l))} {
		if w := of(t, m, 1, c); !w.Same(n) || !n.Same(w) || w == n {
			t.Errorf("%v is worth %v", m, w.Value())
		}
	}
	w := of(t, l, 1, c)
	checkWorth(t, n.Plus(w), big.NewRat(5, 1))
	checkWorth(t, w.Plus(n), big.NewRat(5, 1))
	checkWorth(t, n.Turned(), new(big.Rat))
	checkWorth(t, n.Plus(nil), new(big.Rat))
	checkWorth(t, n, new(big.Rat))
}

// Promise 15.2: by hand: what Value rounds away is there still.
func TestWorthHand(t *testing.T) {
	c := node(least)
	for _, x := range []struct {
		l    []api.Flow
		want float64
		sign int
	}{
		{[]api.Flow{pay(1, least)}, 0, 1},
		{[]api.Flow{pay(1, -least)}, minus, -1},
		{[]api.Flow{pay(0, 1), pay(1, least)}, 1, 1},
		{[]api.Flow{pay(0, greatest), pay(0, greatest)}, inf, 1},
		{[]api.Flow{pay(0, -greatest), pay(0, -greatest)}, -inf, -1},
		{[]api.Flow{pay(0, -3), pay(0, 3)}, 0, 0},
	} {
		w := of(t, x.l, 1, c)
		if !value(w.Value()).is(value(x.want)) || w.Sign() != x.sign {
			t.Errorf("%v is worth %x, of the sign %d", x.l, w.Value(), w.Sign())
		}
		v := w.Turned()
		if !value(v.Value()).is(value(-x.want)) && x.sign != 0 || v.Sign() != -x.sign || v.Same(w) != (x.sign == 0) {
			t.Errorf("%v turned is worth %x, of the sign %d", x.l, v.Value(), v.Sign())
		}
	}
	// Two that are the same in what they tell, but for a bit far below.
	one, more := of(t, []api.Flow{pay(0, 1)}, 1, c), of(t, []api.Flow{pay(0, 1), pay(1, least)}, 1, c)
	if one.Same(more) || more.Same(one) || one.Value() != more.Value() {
		t.Errorf("%v is the same as %v", one, more)
	}
	if d := more.Plus(one.Turned()); d.Sign() != 1 || !d.Same(of(t, []api.Flow{pay(1, least)}, 1, c)) {
		t.Errorf("what is left is %v", d)
	}
	huge := of(t, []api.Flow{pay(0, greatest), pay(0, greatest)}, 1, c)
	great := of(t, []api.Flow{pay(0, greatest), pay(0, greatest), pay(0, greatest)}, 1, c)
	if huge.Same(great) || huge.Value() != great.Value() || great.Plus(huge.Turned()).Value() != greatest {
		t.Errorf("%v is the same as %v", huge, great)
	}
	for _, w := range []*price.Worth{price.Nothing(), one, more, huge} {
		if w.Same(nil) {
			t.Errorf("%v is the same as nothing at all", w)
		}
	}
}

// Promise 15.2: against rationals; Plus and Turned are new ones, and what they are made of stays.
func TestWorthSteps(t *testing.T) {
	state := uint64(1520)
	for i := range 1500 {
		c := someCurve(&state, 1+i%4)
		l, m := inRange(someFlows(&state, 9, c), c), inRange(someFlows(&state, 9, c), c)
		p, _ := stepOf(l, 1, c)
		q, _ := stepOf(m, 1, c)
		w, o := of(t, l, 1, c), of(t, m, 1, c)
		both, again, turned, alone, twice := w.Plus(o), o.Plus(w), w.Turned(), w.Plus(nil), w.Plus(w)
		sum, double, other := new(big.Rat).Add(p, q), new(big.Rat).Add(p, p), new(big.Rat).Neg(p)
		for _, x := range []struct {
			w *price.Worth
			r *big.Rat
		}{{both, sum}, {again, sum}, {turned, other}, {turned.Turned(), p}, {alone, p}, {twice, double}, {w.Plus(turned), new(big.Rat)}, {w, p}, {o, q}} {
			checkWorth(t, x.w, x.r)
		}
		if w.Same(o) != (p.Cmp(q) == 0) || w.Same(turned) != (p.Sign() == 0) {
			t.Errorf("%v and %v: %v, %v", p, q, w.Same(o), w.Same(turned))
		}
	}
}

// inRange is the flows without those behind the curve.
func inRange(l []api.Flow, c api.Curve) []api.Flow {
	return flow.Window(l, 0, last(c)+1)
}

// Promise 15.2: each answer is its own: what is added to one is not seen in another.
func TestWorthMemory(t *testing.T) {
	c, l := given()
	makers := []func() *price.Worth{
		price.Nothing,
		func() *price.Worth { return of(t, l, 1, c) },
		func() *price.Worth { return of(t, []api.Flow{pay(50, -0.1), pay(70, 1e300)}, 1, c) },
	}
	for _, first := range makers {
		for _, second := range makers {
			w, o := first(), second()
			answers := []*price.Worth{w.Plus(o), w.Plus(nil), w.Turned(), o.Plus(w), o.Plus(nil), o.Turned(), w.Plus(w), w, o}
			for i, a := range answers {
				before := values(answers)
				a.Add(1e250)
				for k, x := range values(answers) {
					if k != i && !value(x).is(value(before[k])) {
						t.Errorf("the answer %d moves with %d: from %x to %x", k, i, before[k], x)
					}
				}
			}
		}
	}
}

// values is what the worths tell.
func values(l []*price.Worth) []float64 {
	var told []float64
	for _, w := range l {
		told = append(told, w.Value())
	}
	return told
}

// Promise 15.5 and W3 of DOC.md: a list cut into parts, in any order, is worth the list.
func TestParts(t *testing.T) {
	state := uint64(155)
	for i := range 800 {
		c := someCurve(&state, 1+i%4)
		l, m := inRange(someFlows(&state, 40, c), c), inRange(someFlows(&state, 40, c), c)
		checkParts(t, &state, l, m, c)
	}
	for _, kind := range kinds() {
		l, c := full(&state, kind)
		for _, cut := range []int{0, 1, 1000, api.MaxFlows} {
			checkParts(t, &state, l[:cut], l[cut:], c)
		}
	}
}

func checkParts(t *testing.T, state *uint64, l, m []api.Flow, c api.Curve) {
	t.Helper()
	whole := slices.Concat(l, m)
	want := of(t, whole, 1, c)
	for _, got := range []*price.Worth{
		of(t, l, 1, c).Plus(of(t, m, 1, c)),
		of(t, m, 1, c).Plus(of(t, l, 1, c)),
		of(t, mixed(state, whole), 1, c),
		of(t, slices.Concat(m, l), 1, c),
	} {
		if !got.Same(want) || !want.Same(got) || !value(got.Value()).is(value(want.Value())) || got.Sign() != want.Sign() {
			t.Errorf("%v and %v on %v are worth %v, together %v", l, m, c, got.Value(), want.Value())
		}
	}
	singly := price.Nothing()
	for _, x := range mixed(state, whole) {
		singly = singly.Plus(of(t, []api.Flow{x}, 1, c))
	}
	if !singly.Same(want) {
		t.Errorf("%v on %v, flow by flow, are worth %v, not %v", whole, c, singly.Value(), want.Value())
	}
	given := of(t, flow.Give(whole), 1, c)
	if !want.Turned().Same(given) || !given.Turned().Same(want) || !want.Plus(given).Same(price.Nothing()) {
		t.Errorf("%v on %v are worth %v, given %v", whole, c, want.Value(), given.Value())
	}
	if len(whole)*2 <= api.MaxFlows {
		if none := of(t, mixed(state, slices.Concat(whole, flow.Give(whole))), 1, c); !none.Same(price.Nothing()) || !value(none.Value()).is(value(0)) {
			t.Errorf("%v and their Give are worth %v", whole, none.Value())
		}
	}
}
