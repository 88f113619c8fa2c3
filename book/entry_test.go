package book_test

import (
	"slices"
	"strings"
	"testing"

	"tenor/api"
	"tenor/book"
)

// checkAdd holds one answer of Add.
func checkAdd(t *testing.T, b *book.Book, id int, s string, want api.Errno, place int) {
	t.Helper()
	if e, at := b.Add(id, s); e != want || at != place {
		t.Errorf("Add(%d, %.60s) is %v, %d, not %v, %d", id, s, e, at, want, place)
	}
}

// checkList holds the answer of List.
func checkList(t *testing.T, b *book.Book, want ...int) {
	t.Helper()
	if got := b.List(); !slices.Equal(got, want) {
		t.Errorf("List is %v, not %v", got, want)
	}
}

// badTexts is texts of no deal, or of one that means no flows, each with what Add tells.
func badTexts() map[string]struct {
	e  api.Errno
	at int
} {
	type told = struct {
		e  api.Errno
		at int
	}
	return map[string]told{
		"":                                   {api.ErrWord, 0},
		"pay":                                {api.ErrWord, 3},
		"  buy":                              {api.ErrWord, 2},
		"pay 1 9 2030-01-01":                 {api.ErrWord, 6},
		"both zero":                          {api.ErrWord, 9},
		"zero zero":                          {api.ErrWord, 5},
		strings.Repeat("give ", 64) + "zero": {api.ErrDeep, 320},
		strings.Repeat(" ", 65533) + "zero":  {api.ErrLong, 0},
		"scale 10 pay 1e308 1 2030-01-01":    {api.ErrValue, 0},
		"repeat 2 1 pay 1 1 2199-12-31":      {api.ErrRange, 0},
		"repeat 2 1 " + months(3600, 1):      {api.ErrMany, 0},
		"fixed 1 1 euro 1900-01-01 2001-01-01 1 1": {api.ErrMany, 0},
	}
}

// Promise 20.2: the deal is there, by its number; its text as deal.Print tells it, and its flows.
func TestAdd(t *testing.T) {
	b := book.New()
	want := map[int]string{}
	for _, x := range []struct {
		id      int
		s, text string
		flows   []api.Flow
	}{
		{7, "pay 4 1 2030-01-01", "pay 0x1p+2 1 2030-01-01", []api.Flow{f(to, 4, 1)}},
		{1, "zero", "zero", nil},
		{1000000, "  scale   0.5 both pay 1 1 2030-01-01 give pay 3e0 2 2031-01-01 ", "scale 0x1p-1 both pay 0x1p+0 1 2030-01-01 give pay 0x1.8p+1 2 2031-01-01", []api.Flow{f(to, 0.5, 1), f(to+365, -1.5, 2)}},
		{8, "fixed 100 0.05 euro 2025-01-15 2026-01-15 6 8", "fixed 0x1.9p+6 0x1.999999999999ap-5 euro 2025-01-15 2026-01-15 6 8", []api.Flow{f(45851, 2.5, 8), f(46035, 2.5, 8)}},
		{999999, "window 2030-01-01 2031-01-01 repeat 3 12 pay -0 1 2030-01-31", "window 2030-01-01 2031-01-01 repeat 3 12 pay -0x0p+0 1 2030-01-31", []api.Flow{f(47512, minus, 1)}},
		{2, strings.Repeat(" ", 65532) + "zero", "zero", nil},
		{3, strings.Repeat("give ", 63) + "pay 1 3 1900-01-01", strings.Repeat("give ", 63) + "pay 0x1p+0 3 1900-01-01", []api.Flow{f(0, -1, 3)}},
	} {
		add(t, b, x.id, x.s)
		want[x.id] = x.text
		if got, e := b.Text(x.id); got != x.text || e != api.OK {
			t.Errorf("Text(%d) is %q, %v, not %q", x.id, got, e, x.text)
		}
		if got, e := b.Flows(x.id); !sameFlows(got, x.flows) || e != api.OK {
			t.Errorf("Flows(%d) is %v, %v, not %v", x.id, got, e, x.flows)
		}
	}
	checkList(t, b, 1, 2, 3, 7, 8, 999999, 1000000)
	for id, s := range want {
		if got, e := b.Text(id); got != s || e != api.OK {
			t.Errorf("Text(%d) is %q, %v, not %q", id, got, e, s)
		}
	}
}

// sameFlows holds two lists of flows against each other to the bit.
func sameFlows(a, b []api.Flow) bool {
	return slices.EqualFunc(a, b, func(x, y api.Flow) bool {
		return bits(x.Amount) == bits(y.Amount) && x.Day == y.Day && x.Cur == y.Cur
	})
}

// Promise 20.2: what there is none of.
func TestNoDeal(t *testing.T) {
	b := made(t, nil, map[int]string{7: "pay 4 1 2030-01-01"})
	for _, id := range append(strange(), 1, 6, 8, 1000000) {
		if s, e := b.Text(id); s != "" || e != api.ErrDeal {
			t.Errorf("Text(%d) is %q, %v", id, s, e)
		}
		if l, e := b.Flows(id); len(l) != 0 || e != api.ErrDeal {
			t.Errorf("Flows(%d) is %v, %v", id, l, e)
		}
		if e := b.Drop(id); e != api.ErrDeal {
			t.Errorf("Drop(%d) is %v", id, e)
		}
	}
	checkList(t, b, 7)
}

// Promises 20.2 and 20.9: what Add refuses, in its order: the number, the text, the flows, one that is there, too many; nothing is changed by it.
func TestAddRefusals(t *testing.T) {
	b := made(t, map[int]api.Curve{1: halving()}, map[int]string{7: "pay 4 1 2030-01-01", 9: "zero"})
	refuse := func(id int, free, there api.Errno) {
		t.Helper()
		want := tells(b)
		for s, x := range badTexts() {
			checkAdd(t, b, id, s, x.e, x.at)
			checkAdd(t, b, 7, s, x.e, x.at)
			for _, bad := range strange() {
				checkAdd(t, b, bad, s, api.ErrArg, 0)
			}
		}
		for _, bad := range strange() {
			checkAdd(t, b, bad, "zero", api.ErrArg, 0)
		}
		for _, s := range []string{"zero", "pay 4 1 2030-01-01", "pay 5 2 2031-01-01"} {
			checkAdd(t, b, 7, s, there, 0)
			if free != api.OK {
				checkAdd(t, b, id, s, free, 0)
			}
		}
		if !slices.Equal(tells(b), want) {
			t.Error("what was refused has changed the book")
		}
	}
	refuse(8, api.OK, api.ErrSame)
	for i := range 254 {
		add(t, b, 100+i, "zero")
	}
	refuse(8, api.ErrMany, api.ErrSame)
	refuse(1000000, api.ErrMany, api.ErrSame)
	// One that goes makes room for one.
	if e := b.Drop(9); e != api.OK {
		t.Errorf("Drop is %v", e)
	}
	checkAdd(t, b, 8, "zero", api.OK, 0)
	checkAdd(t, b, 9, "zero", api.ErrMany, 0)
	checkAdd(t, b, 8, "zero", api.ErrSame, 0)
}

// Promise 20.2: a deal that was dropped is gone, and may come again as another one.
func TestDrop(t *testing.T) {
	b := made(t, map[int]api.Curve{1: halving()}, map[int]string{7: "pay 4 1 2030-01-01", 3: "pay 2 1 2030-01-01", 900: "zero"})
	if e := b.Drop(7); e != api.OK {
		t.Errorf("Drop is %v", e)
	}
	checkList(t, b, 3, 900)
	if e := b.Drop(7); e != api.ErrDeal {
		t.Errorf("Drop is %v", e)
	}
	checkValue(t, b, 1, value(1))
	add(t, b, 7, "pay 6 1 2030-01-01")
	checkList(t, b, 3, 7, 900)
	checkValue(t, b, 1, value(4))
	for _, id := range []int{900, 3, 7} {
		if e := b.Drop(id); e != api.OK {
			t.Errorf("Drop is %v", e)
		}
	}
	checkList(t, b)
	checkValue(t, b, 1, value(0))
}

// Promise 20.2: List rises, whatever the order in which the deals came.
func TestList(t *testing.T) {
	state := uint64(202)
	for range 20 {
		b := book.New()
		var want []int
		for len(want) < 256 {
			id := 1 + below(&state, []int{300, 1000000}[len(want)%2])
			if !slices.Contains(want, id) {
				add(t, b, id, "zero")
				want = append(want, id)
			}
		}
		slices.Sort(want)
		checkList(t, b, want...)
	}
}
