package book_test

import (
	"fmt"
	"math"
	"slices"
	"testing"

	"tenor/api"
	"tenor/book"
	"tenor/price"
)

// scattered is a book of about n deals in few currencies, with some curves and exchange rates.
func scattered(t *testing.T, state *uint64, n int) *book.Book {
	t.Helper()
	b := book.New()
	for cur := 1; cur <= 3; cur++ {
		if below(state, 5) > 0 {
			b.Curve(cur, someCurve(state))
		}
		if below(state, 2) > 0 {
			b.Rate(cur, 0.5+unit(state))
		}
	}
	for range n {
		b.Add(1+below(state, 50), someText(state, 3, []int{1, 2, 3}))
	}
	return b
}

// do makes one scattered change of both, and holds what they answer against each other.
func do(t *testing.T, state *uint64, b *book.Book, s *shelf) api.Errno {
	t.Helper()
	cur := 1 + below(state, 4)
	if below(state, 12) == 0 {
		cur = noCurs()[below(state, len(noCurs()))]
	}
	id := 1 + below(state, 12)
	if below(state, 12) == 0 {
		id = strange()[below(state, len(strange()))]
	}
	both := func(call func(k keeper) (api.Errno, int), name string) api.Errno {
		got, at := call(b)
		want, place := call(s)
		if got != want || at != place {
			t.Fatalf("%s is %v, %d, not %v, %d", name, got, at, want, place)
		}
		return got
	}
	switch below(state, 10) {
	case 0, 1:
		c := someCurve(state)
		if below(state, 4) == 0 {
			c.Factors[0] = nan
		}
		return both(func(k keeper) (api.Errno, int) { return k.Curve(cur, c), 0 }, fmt.Sprintf("Curve(%d, %v)", cur, c))
	case 2:
		return both(func(k keeper) (api.Errno, int) { return k.Clear(cur), 0 }, fmt.Sprintf("Clear(%d)", cur))
	case 3:
		x := []float64{nan, 0, unit(state), math.Ldexp(1+unit(state), below(state, 2046)-1023), 1.25}[below(state, 5)]
		return both(func(k keeper) (api.Errno, int) { return k.Rate(cur, x), 0 }, fmt.Sprintf("Rate(%d, %x)", cur, x))
	case 4, 5:
		return both(func(k keeper) (api.Errno, int) { return k.Drop(id), 0 }, fmt.Sprintf("Drop(%d)", id))
	}
	text := someText(state, 3, []int{1, 2, 3, 4})
	if below(state, 8) == 0 {
		text = text[:below(state, len(text))]
	}
	return both(func(k keeper) (api.Errno, int) { return k.Add(id, text) }, fmt.Sprintf("Add(%d, %s)", id, text))
}

// Promises 20.1 to 20.6 and 20.9: scattered changes, copies and joins, each answer against the chapter's words; what was copied, or joined, stays as it is.
func TestScattered(t *testing.T) {
	state := uint64(209)
	seen := map[api.Errno]int{}
	for range 60 {
		b, s := book.New(), &shelf{}
		old, kept := b.Copy(), s.Copy()
		for i := range 60 {
			seen[do(t, &state, b, s)]++
			switch {
			case i%15 == 7:
				old, kept = b.Copy(), s.Copy()
			case i%15 == 14:
				if i%2 == 0 { // without what both have
					for _, id := range b.List() {
						old.Drop(id)
						kept.Drop(id)
					}
				}
				e, want := b.Join(old), s.Join(kept)
				if e != want {
					t.Fatalf("Join is %v, not %v", e, want)
				}
				seen[1000+e]++
			case below(&state, 4) == 0:
				do(t, &state, old, kept)
			}
			if i%6 == 0 {
				checkSame(t, b, s)
				checkSame(t, old, kept)
			}
		}
	}
	if seen[api.OK] < 1000 || seen[api.ErrWord] < 40 || seen[api.ErrSame] < 100 || seen[api.ErrDeal] < 100 || seen[api.ErrCurve] < 50 || seen[api.ErrCur] < 50 || seen[api.ErrArg] < 50 || seen[1000] < 50 || seen[1000+api.ErrSame] < 50 {
		t.Errorf("only %v", seen)
	}
}

// The scattered books are not about errors alone, nor without them.
func TestScatteredTells(t *testing.T) {
	state := uint64(2090)
	seen := map[string]int{}
	for range 600 {
		b := scattered(t, &state, 6)
		for cur := 1; cur <= 3; cur++ {
			_, e := b.Value(cur)
			seen[fmt.Sprint("Value ", e)]++
			_, e = b.Report(cur)
			seen[fmt.Sprint("Report ", e)]++
			_, e = b.Ladder(cur, 0.01)
			seen[fmt.Sprint("Ladder ", e)]++
		}
		_, e := b.Total()
		seen[fmt.Sprint("Total ", e)]++
	}
	for _, name := range []string{"Value", "Report", "Ladder", "Total"} {
		for _, e := range []api.Errno{api.OK, api.ErrRange, api.ErrCurve, api.ErrValue} {
			if seen[fmt.Sprint(name, " ", e)] < 10 {
				t.Errorf("%s tells %v only %d times", name, e, seen[fmt.Sprint(name, " ", e)])
			}
		}
	}
}

// step is one change of a book.
type step func(b *book.Book)

// shuffled is the steps in a scattered order.
func shuffled(state *uint64, l []step) []step {
	l = slices.Clone(l)
	for i := range l {
		k := i + below(state, len(l)-i)
		l[i], l[k] = l[k], l[i]
	}
	return l
}

// Promise 20.7 (W2): books that have come to the same on whatever ways tell the same.
func TestAnyOrder(t *testing.T) {
	state := uint64(207)
	for range 60 {
		want := scattered(t, &state, 9)
		var way []step
		for cur := 1; cur <= 3; cur++ {
			c, has, x, _ := want.Get(cur)
			other := someCurve(&state)
			way = append(way, func(b *book.Book) { b.Rate(cur, 7); b.Rate(cur, x) })
			way = append(way, func(b *book.Book) {
				b.Curve(cur, other)
				if b.Clear(cur); has {
					b.Curve(cur, c)
				}
			})
		}
		for _, id := range want.List() {
			text, _ := want.Text(id)
			way = append(way, func(b *book.Book) {
				b.Add(id, "pay 1 8 2030-01-01")
				b.Drop(id)
				b.Add(id, text)
				b.Add(id, "zero")
			})
		}
		for range 3 {
			got, more := book.New(), book.New()
			for _, do := range shuffled(&state, way) {
				do(got)
			}
			checkSame(t, got, want)
			// Half of the deals by way of another book.
			for i, id := range got.List() {
				if i%2 == 0 {
					text, _ := got.Text(id)
					add(t, more, id, text)
					got.Drop(id)
				}
			}
			if e := got.Join(more); e != api.OK {
				t.Fatalf("Join is %v", e)
			}
			checkSame(t, got, want)
			checkSame(t, got.Copy(), want)
		}
	}
}

// Promise 20.6: the deals of both, with the curves and exchange rates of the first; the other stays.
func TestJoin(t *testing.T) {
	b := made(t, map[int]api.Curve{1: halving()}, map[int]string{7: "pay 4 1 2030-01-01"})
	o := made(t, map[int]api.Curve{1: even(), 2: even()}, map[int]string{3: "pay 6 1 2030-01-01", 9: "both pay 1 2 2030-01-01 pay 1 1 2030-01-01"})
	b.Rate(1, 2)
	o.Rate(1, 3)
	o.Rate(2, 5)
	same := tells(o)
	if e := b.Join(o); e != api.OK {
		t.Fatalf("Join is %v", e)
	}
	checkList(t, b, 3, 7, 9)
	checkValue(t, b, 1, value(5.5))
	checkGet(t, b, 1, halving(), true, 2, api.OK)
	checkGet(t, b, 2, api.Curve{}, false, 1, api.OK)
	if s, e := b.Text(9); s != "both pay 0x1p+0 2 2030-01-01 pay 0x1p+0 1 2030-01-01" || e != api.OK {
		t.Errorf("Text is %q, %v", s, e)
	}
	if !slices.Equal(tells(o), same) {
		t.Error("Join has changed the other book")
	}
	// Neither knows of the other from then on.
	o.Drop(3)
	b.Drop(9)
	checkList(t, b, 3, 7)
	checkList(t, o, 9)
	add(t, b, 20, "zero")
	add(t, o, 30, "zero")
	checkList(t, b, 3, 7, 20)
	checkList(t, o, 9, 30)
}

// Promises 20.6 and 20.9: what Join refuses, in its order, and that it changes nothing; nil, empty books, and the book itself.
func TestJoinRefusals(t *testing.T) {
	refused := func(b, o *book.Book, want api.Errno) {
		t.Helper()
		first, second := b.List(), o.List()
		if e := b.Join(o); e != want {
			t.Errorf("Join is %v, not %v", e, want)
		}
		checkList(t, b, first...)
		checkList(t, o, second...)
	}
	filled := func(first, n int) *book.Book {
		b := book.New()
		for i := range n {
			add(t, b, first+i, "zero")
		}
		return b
	}
	b := made(t, map[int]api.Curve{1: halving()}, map[int]string{7: "pay 4 1 2030-01-01", 8: "zero"})
	want := tells(b)
	if e := b.Join(nil); e != api.OK {
		t.Errorf("Join(nil) is %v", e)
	}
	refused(b, book.New(), api.OK)
	refused(b, b, api.ErrSame)
	refused(b, b.Copy(), api.ErrSame)
	refused(b, made(t, nil, map[int]string{8: "pay 1 1 2030-01-01"}), api.ErrSame)
	refused(b, made(t, nil, map[int]string{6: "zero", 7: "zero"}), api.ErrSame)
	refused(b, filled(100, 255), api.ErrMany)
	refused(b, filled(100, 256), api.ErrMany)
	refused(b, filled(8, 256), api.ErrSame)
	if !slices.Equal(tells(b), want) {
		t.Error("what was refused has changed the book")
	}
	if e := b.Join(filled(100, 254)); e != api.OK || len(b.List()) != 256 {
		t.Errorf("Join is %v, and there are %d deals", e, len(b.List()))
	}
	refused(b, filled(9, 1), api.ErrMany)
	refused(b, filled(7, 1), api.ErrSame)
	refused(b, b, api.ErrSame)
	refused(b, book.New(), api.OK)
	empty := book.New()
	refused(empty, empty, api.OK)
	if e := empty.Join(nil); e != api.OK {
		t.Errorf("Join(nil) is %v", e)
	}
	whole := filled(1, 256)
	if e := empty.Join(whole); e != api.OK || len(empty.List()) != 256 {
		t.Errorf("Join is %v", e)
	}
	refused(whole, whole, api.ErrSame)
}

// Promise 20.8 (W3): the Value of two books joined is that of the exact sum of both.
func TestJoinWorth(t *testing.T) {
	state := uint64(2081)
	held := 0
	for range 200 {
		b, o := book.New(), book.New()
		c := someCurve(&state)
		b.Curve(1, c)
		o.Curve(1, c)
		sum, late := price.Nothing(), false
		for id := range 8 {
			k := []*book.Book{b, o}[id%2]
			if e, _ := k.Add(1+id, someText(&state, 3, []int{1, 2})); e != api.OK {
				continue
			}
			w, e := price.Of(flowsOf(k, 1+id), 1, c)
			late = late || e != api.OK
			sum = sum.Plus(w)
		}
		if e := b.Join(o); e != api.OK {
			t.Fatalf("Join is %v", e)
		}
		switch {
		case late:
			checkValue(t, b, 1, wrong(api.ErrRange))
		case math.IsInf(sum.Value(), 0):
			checkValue(t, b, 1, wrong(api.ErrValue))
		default:
			checkValue(t, b, 1, value(sum.Value()))
			held++
		}
	}
	if held < 60 {
		t.Errorf("only %d books", held)
	}
}

// W3: a deal cut into its parts, in any order, is worth the deal.
func TestCut(t *testing.T) {
	state := uint64(2082)
	held := 0
	for range 200 {
		whole, parts := book.New(), book.New()
		c := someCurve(&state)
		whole.Curve(1, c)
		parts.Curve(1, c)
		text := "zero"
		for id := range 6 {
			part := someText(&state, 2, []int{1})
			if e, _ := parts.Add(1+below(&state, 1000)*10+id, part); e == api.OK {
				text = "both " + part + " " + text
			}
		}
		add(t, whole, 5, text)
		checkOne(t, whole, 5, 1, told(parts.Value(1)))
		checkValue(t, whole, 1, told(parts.Value(1)))
		checkTotal(t, whole, told(parts.Total()))
		if _, e := whole.Value(1); e == api.OK {
			held++
		}
	}
	if held < 80 {
		t.Errorf("only %d deals", held)
	}
}

// Promise 20.6: a copy is the same, and neither knows what is done to the other.
func TestCopy(t *testing.T) {
	b := known(t)
	want := tells(b)
	c := b.Copy()
	checkSame(t, c, b)
	turn := func(x *book.Book) {
		x.Curve(1, halving())
		x.Clear(2)
		x.Rate(3, 9)
		x.Curve(8, even())
		x.Drop(3)
		x.Drop(1)
		x.Add(1, "pay 1 1 2027-01-01")
		x.Add(4, "zero")
	}
	turn(c)
	if !slices.Equal(tells(b), want) {
		t.Error("the book knows of its copy")
	}
	turned, d := tells(c), b.Copy()
	turn(b)
	if !slices.Equal(tells(d), want) || !slices.Equal(tells(c), turned) {
		t.Error("a copy knows of the book")
	}
	checkSame(t, b, c)
	checkSame(t, book.New().Copy(), book.New())
}

// spoil writes over a list and the room behind it.
func spoil[T any](l []T, filler T) {
	l = l[:cap(l)]
	for i := range l {
		l[i] = filler
	}
}

// Promise 20.10 and rule 3 of DOC.md: what is handed in is copied, and not changed, its spare room too; what is told is new memory.
func TestMemory(t *testing.T) {
	days, factors := []int{46000, to, 7, 7}, []float64{0.75, 0.5, 7, 7}
	given := api.Curve{Base: from, Kind: api.ILinear, Days: days[:2], Factors: factors[:2]}
	b := made(t, map[int]api.Curve{1: given}, map[int]string{7: "repeat 3 1 pay 4 1 2029-01-01", 5: "both pay 1 1 2029-06-06 pay 2 2 2029-06-06", 6: "pay 1 1 2027-07-07"})
	c := b.Copy()
	o := book.New()
	o.Join(b)
	o.Curve(1, given)
	want := tells(b)
	if b.Ladder(1, 0.01); !slices.Equal(days, []int{46000, to, 7, 7}) || !slices.Equal(factors, []float64{0.75, 0.5, 7, 7}) {
		t.Errorf("%v, %v were changed", days, factors)
	}
	spoil(days, -1)
	spoil(factors, nan)
	for _, x := range []*book.Book{b, c, o} {
		for range 2 {
			told, _, _, _ := x.Get(1)
			spoil(told.Days, -1)
			spoil(told.Factors, nan)
			spoil(x.List(), -1)
			for _, id := range []int{5, 6, 7} {
				spoil(flowsOf(x, id), f(-1, nan, 99))
			}
			lines, _ := x.Report(1)
			spoil(lines, api.Line{ID: -1})
			rungs, _ := x.Ladder(1, 0.01)
			spoil(rungs, nan)
			for _, y := range []*book.Book{b, c, o} {
				if !slices.Equal(tells(y), want) {
					t.Fatal("a book has kept, or told, memory of another's")
				}
			}
		}
	}
}

// Promise 20.10: the greatest book: 256 deals of 4,096 flows.
func TestGreatest(t *testing.T) {
	b := made(t, map[int]api.Curve{1: even()}, nil)
	for id := 1; id <= 256; id++ {
		add(t, b, id, "both "+months(3600, 1)+" "+months(496, 1))
	}
	checkValue(t, b, 1, value(256*4096))
	checkTotal(t, b, value(256*4096))
	checkLadder(t, b, 1, 0.01, nil, api.ErrMany)
	l, e := b.Report(1)
	if len(l) != 256 || e != api.OK || l[255] != (api.Line{ID: 256, Flows: 4096, Value: 4096}) {
		t.Errorf("Report is %d lines, %v", len(l), e)
	}
	checkAdd(t, b, 257, "zero", api.ErrMany, 0)
}
