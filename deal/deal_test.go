package deal_test

import (
	"math"
	"slices"
	"testing"

	"tenor/api"
	"tenor/deal"
)

// checkTree holds what all calls that are handed a tree answer of one, against the chapter's words.
func checkTree(t *testing.T, l []api.Term) {
	t.Helper()
	want := stepCheck(l)
	checkCheck(t, l, want.e, want.at)
	depth, words, means := deepness{e: want.e}, printed{e: want.e}, wrong(want.e)
	if want.e == api.OK {
		root := len(l) - 1
		depth, words, means = deep(stepDepth(l, root), api.OK), wrote(stepPrint(l, root), api.OK), stepFlows(l)
	}
	if got := deep(deal.Depth(l)); got != depth {
		t.Errorf("Depth(%v) is %v, not %v", l, got, depth)
	}
	if got := wrote(deal.Print(l)); got != words {
		t.Errorf("Print(%v) is %v, not %v", l, got, words)
	}
	if got := told(deal.Flows(l)); !got.is(means) {
		t.Errorf("Flows(%v) is %v, not %v", l, got, means)
	}
}

// checkCheck holds one answer of Check.
func checkCheck(t *testing.T, l []api.Term, want api.Errno, at int) {
	t.Helper()
	if got := checked(deal.Check(l)); got != (verdict{want, at}) {
		t.Errorf("Check of %d terms, %v .., is %v, not %v, %d", len(l), l[:min(len(l), 9)], got, want, at)
	}
}

// refuseAll holds that each call answers that error of the tree.
func refuseAll(t *testing.T, l []api.Term, want api.Errno, at int) {
	t.Helper()
	checkCheck(t, l, want, at)
	if got := deep(deal.Depth(l)); got != (deepness{0, want}) {
		t.Errorf("Depth of %d terms is %v", len(l), got)
	}
	if got := wrote(deal.Print(l)); got != (printed{"", want}) {
		t.Errorf("Print of %d terms is %v", len(l), got)
	}
	if got := told(deal.Flows(l)); !got.is(wrong(want)) {
		t.Errorf("Flows of %d terms is %v", len(l), got)
	}
}

// takeAll holds that the tree may be, and how deep it is.
func takeAll(t *testing.T, l []api.Term, depth int) {
	t.Helper()
	checkCheck(t, l, api.OK, 0)
	if got := deep(deal.Depth(l)); got != (deepness{depth, api.OK}) {
		t.Errorf("Depth of %d terms is %v, not %d", len(l), got, depth)
	}
}

func zero() api.Term { return api.Term{Kind: api.TZero} }

func give(a int) api.Term { return api.Term{Kind: api.TGive, A: a} }

func both(a, b int) api.Term { return api.Term{Kind: api.TBoth, A: a, B: b} }

func pay(x float64, cur, day int) api.Term {
	return api.Term{Kind: api.TPay, X: x, Cur: cur, Day: day}
}

func fixed() api.Term {
	return api.Term{Kind: api.TFixed, X: 100, Y: 0.05, Count: api.DEuro, Day: 45000, To: 45365, N: 6, Cur: 1}
}

// chain is so many gives, one in the other, about a zero.
func chain(n int) []api.Term {
	l := []api.Term{zero()}
	for i := range n {
		l = append(l, give(i))
	}
	return l
}

// comb is so many boths, each with a zero beside the last one.
func comb(n int) []api.Term {
	l := []api.Term{zero()}
	for range n {
		l = append(l, zero(), both(len(l)-1, len(l)))
	}
	return l
}

// bush is two to that power zeros under boths, all as deep.
func bush(power int) []api.Term {
	if power == 0 {
		return []api.Term{zero()}
	}
	half := bush(power - 1)
	l := slices.Clone(half)
	for _, x := range half {
		if x.Kind == api.TBoth {
			x.A, x.B = x.A+len(half), x.B+len(half)
		}
		l = append(l, x)
	}
	return append(l, both(len(half)-1, len(l)-1))
}

// Promise 17.2: trees that may be, and how deep they are.
func TestCheckTakes(t *testing.T) {
	takeAll(t, []api.Term{zero()}, 1)
	takeAll(t, []api.Term{pay(1, 1, 0)}, 1)
	takeAll(t, []api.Term{fixed()}, 1)
	takeAll(t, []api.Term{zero(), give(0)}, 2)
	takeAll(t, []api.Term{zero(), zero(), both(0, 1)}, 2)
	takeAll(t, []api.Term{zero(), {Kind: api.TScale, X: -2}}, 2)
	takeAll(t, []api.Term{zero(), {Kind: api.TWindow}}, 2)
	takeAll(t, []api.Term{zero(), {Kind: api.TRepeat, N: 1, Months: 1}}, 2)
	takeAll(t, []api.Term{zero(), zero(), give(1), both(0, 2)}, 3)
	takeAll(t, []api.Term{zero(), give(0), zero(), both(1, 2)}, 3)
	takeAll(t, []api.Term{zero(), zero(), both(0, 1), zero(), give(3), give(4), both(2, 5)}, 4)
	takeAll(t, []api.Term{zero(), zero(), zero(), both(1, 2), both(0, 3)}, 3)
	takeAll(t, chain(62), 63)
	takeAll(t, chain(63), 64)
	takeAll(t, comb(63), 64)
	takeAll(t, bush(9), 10) // 1,023 terms
	takeAll(t, append(bush(9), give(1022)), 11)
}

// Promise 17.2: terms that do not belong together.
func TestCheckParts(t *testing.T) {
	refuseAll(t, nil, api.ErrTree, 0)
	refuseAll(t, []api.Term{}, api.ErrTree, 0)
	for _, x := range []struct {
		l  []api.Term
		at int
	}{
		// None ahead.
		{[]api.Term{give(0)}, 0}, {[]api.Term{give(-1)}, 0}, {[]api.Term{both(0, 0)}, 0}, {[]api.Term{both(-2, -1)}, 0}, {[]api.Term{both(-1, -1)}, 0},
		// One alone ahead.
		{[]api.Term{zero(), both(0, 0)}, 1}, {[]api.Term{zero(), both(-1, 0)}, 1}, {[]api.Term{zero(), both(0, 1)}, 1}, {[]api.Term{zero(), give(0), both(0, 1)}, 2},
		{[]api.Term{zero(), give(0), both(-1, 1)}, 2}, {[]api.Term{zero(), zero(), both(0, 1), both(-1, 2)}, 3},
		// Itself, one behind, or none.
		{[]api.Term{zero(), give(1)}, 1}, {[]api.Term{zero(), give(2)}, 1}, {[]api.Term{zero(), give(-1)}, 1}, {[]api.Term{zero(), give(math.MinInt)}, 1},
		{[]api.Term{zero(), give(math.MaxInt)}, 1}, {[]api.Term{zero(), give(1 << 32)}, 1}, {[]api.Term{zero(), zero(), both(0, 1<<32+1)}, 2},
		// Another one than that just ahead.
		{[]api.Term{zero(), zero(), give(0)}, 2}, {[]api.Term{zero(), zero(), both(1, 0)}, 2}, {[]api.Term{zero(), zero(), both(1, 1)}, 2}, {[]api.Term{zero(), zero(), both(0, 0)}, 2},
		{[]api.Term{zero(), zero(), zero(), both(0, 2)}, 3}, {[]api.Term{zero(), zero(), zero(), both(0, 1)}, 3},
		// One that is named already.
		{[]api.Term{zero(), zero(), give(1), both(1, 2)}, 3}, {[]api.Term{zero(), zero(), give(1), both(0, 1)}, 3}, {[]api.Term{zero(), give(0), give(0)}, 2},
		{[]api.Term{zero(), zero(), zero(), both(1, 2), both(2, 3)}, 4}, {[]api.Term{zero(), zero(), zero(), both(1, 2), both(1, 3)}, 4},
		// Some belong to nothing.
		{[]api.Term{zero(), zero()}, 1}, {[]api.Term{zero(), zero(), zero()}, 2}, {[]api.Term{zero(), zero(), give(1)}, 2}, {[]api.Term{zero(), give(0), zero()}, 2},
		{[]api.Term{zero(), zero(), zero(), both(1, 2)}, 3}, {slices.Repeat([]api.Term{zero()}, 1024), 1023},
		// The first one that is wrong, whatever stands behind it.
		{[]api.Term{zero(), give(1), {}}, 1}, {[]api.Term{{}, give(5), zero()}, 0}, {[]api.Term{zero(), zero(), give(0), both(9, 9)}, 2},
		{append(slices.Repeat([]api.Term{zero()}, 1023), api.Term{}), 1023}, {append(chain(500), api.Term{}), 501}, {append(chain(500), give(0)), 501}, {append(chain(500), zero()), 501},
	} {
		if want := stepCheck(x.l); want != (verdict{api.ErrTree, x.at}) {
			t.Fatalf("the steps tell %v of %v", want, x.l)
		}
		refuseAll(t, x.l, api.ErrTree, x.at)
	}
}

// Promise 17.2: trees that are too long or too deep: ErrLong ahead of all, ErrDeep behind all else.
func TestCheckLimits(t *testing.T) {
	for _, n := range []int{1025, 1026, 5000} {
		refuseAll(t, make([]api.Term, n), api.ErrLong, 0)
		refuseAll(t, slices.Repeat([]api.Term{zero()}, n), api.ErrLong, 0)
		refuseAll(t, chain(n-1), api.ErrLong, 0)
	}
	refuseAll(t, append(bush(9), give(1022), give(1023)), api.ErrLong, 0)
	for _, n := range []int{64, 65, 200, 1023} {
		refuseAll(t, chain(n), api.ErrDeep, n)
	}
	for _, n := range []int{64, 65, 511} {
		refuseAll(t, comb(n), api.ErrDeep, 2*n)
	}
	// A side that is too deep, first or last.
	l := append(chain(63), zero())
	refuseAll(t, append(l, both(63, 64)), api.ErrDeep, 65)
	l = []api.Term{zero()}
	for _, x := range chain(63) {
		x.A++
		if x.Kind == api.TZero {
			x.A = 0
		}
		l = append(l, x)
	}
	refuseAll(t, append(l, both(0, 64)), api.ErrDeep, 65)
	refuseAll(t, append(chain(64), api.Term{Kind: 9}), api.ErrTree, 65)
	refuseAll(t, append(chain(64), zero()), api.ErrTree, 65)
	bad := chain(70)
	bad[69].X = 1
	refuseAll(t, bad, api.ErrTree, 69)
}

// part is one of a term's fields: how it is set.
type part struct {
	name  string
	whole func(*api.Term) *int
	float func(*api.Term) *float64
}

func parts() []part {
	return []part{
		{name: "A", whole: func(t *api.Term) *int { return &t.A }},
		{name: "B", whole: func(t *api.Term) *int { return &t.B }},
		{name: "X", float: func(t *api.Term) *float64 { return &t.X }},
		{name: "Y", float: func(t *api.Term) *float64 { return &t.Y }},
		{name: "Day", whole: func(t *api.Term) *int { return &t.Day }},
		{name: "To", whole: func(t *api.Term) *int { return &t.To }},
		{name: "Cur", whole: func(t *api.Term) *int { return &t.Cur }},
		{name: "Count", whole: func(t *api.Term) *int { return &t.Count }},
		{name: "N", whole: func(t *api.Term) *int { return &t.N }},
		{name: "Months", whole: func(t *api.Term) *int { return &t.Months }},
	}
}

// samples is a term of each kind, that stands behind two zeros or, of those without parts, behind none.
func samples() []api.Term {
	return []api.Term{
		zero(), pay(3, 2, 47000), {Kind: api.TFixed, X: 3, Y: 4, Count: api.DAct, Day: 46000, To: 46500, N: 12, Cur: 3}, give(0), both(0, 1),
		{Kind: api.TScale, X: 2}, {Kind: api.TWindow, Day: 46000, To: 47000}, {Kind: api.TRepeat, N: 2, Months: 3},
	}
}

// standing is the tree with the term as its root: its parts are zeros.
func standing(x api.Term) []api.Term {
	switch x.Kind {
	case api.TGive, api.TScale, api.TWindow, api.TRepeat:
		return []api.Term{zero(), x}
	case api.TBoth:
		return []api.Term{zero(), zero(), x}
	}
	return []api.Term{x}
}

// Promises 17.1 and 17.2: each field of each kind: those that it names within their bounds, the others 0.
func TestCheckFields(t *testing.T) {
	good := map[string][]int{
		"pay Cur": {1, 2, 7, 8}, "pay Day": {0, 1, 109571, 109572}, "fixed Count": {1, 2, 3, 4, 5}, "fixed Day": {0, 1, 46499}, "fixed To": {46001, 109571, 109572},
		"fixed N": {1, 2, 1199, 1200}, "fixed Cur": {1, 2, 7, 8}, "window Day": {0, 1, 46999, 47000, 47001, 109572}, "window To": {0, 1, 45999, 46000, 109571, 109572},
		"repeat N": {1, 2, 4095, 4096}, "repeat Months": {1, 2, 1199, 1200}, "give A": {0}, "both A": {0}, "both B": {1}, "scale A": {0}, "window A": {0}, "repeat A": {0},
	}
	bad := map[string][]int{
		"pay Cur": {0, 9}, "pay Day": {-1, 109573}, "fixed Count": {0, 6, 7}, "fixed Day": {-1, 46500, 46501, 109572, 109573}, "fixed To": {-1, 0, 45999, 46000, 109573},
		"fixed N": {0, 1201, 4096}, "fixed Cur": {0, 9}, "window Day": {-1, 109573}, "window To": {-1, 109573}, "repeat N": {0, 4097}, "repeat Months": {0, 1201, 4096},
		"give A": {-1, 1, 2}, "both A": {-1, 1, 2}, "both B": {-1, 0, 2, 3}, "scale A": {-1, 1, 2}, "window A": {-1, 1, 2}, "repeat A": {-1, 1, 2},
	}
	numbers := []string{"pay X", "fixed X", "fixed Y", "scale X"}
	words := []string{"zero", "pay", "fixed", "give", "both", "scale", "window", "repeat"}
	far := []int{math.MinInt, math.MinInt + 1, -1 << 32, 1<<32 + 1, math.MaxInt}
	for i, x := range samples() {
		refuse := func(y api.Term) {
			t.Helper()
			l := standing(y)
			refuseAll(t, l, api.ErrTree, len(l)-1)
		}
		checkTree(t, standing(x))
		for _, p := range parts() {
			name := words[i] + " " + p.name
			if p.float != nil {
				for _, v := range []float64{0, minus, 1, -1, least, -least, greatest, -greatest, nan, inf, -inf, math.Float64frombits(0xfff0000000000001)} {
					y := x
					*p.float(&y) = v
					named := slices.Contains(numbers, name)
					if named && isNumber(v) || !named && math.Float64bits(v) == 0 {
						checkCheck(t, standing(y), api.OK, 0)
						checkTree(t, standing(y))
					} else {
						refuse(y)
					}
				}
				continue
			}
			takes, refuses := good[name], append(bad[name], far...)
			if takes == nil {
				takes, refuses = []int{0}, append(refuses, -1, 1, 2, 3, 46500)
			}
			for _, v := range takes {
				y := x
				*p.whole(&y) = v
				checkCheck(t, standing(y), api.OK, 0)
				checkTree(t, standing(y))
			}
			for _, v := range refuses {
				y := x
				*p.whole(&y) = v
				refuse(y)
			}
		}
	}
	for _, kind := range append(far, -1, 0, 9, 10, 257) {
		refuseAll(t, []api.Term{{Kind: kind}}, api.ErrTree, 0)
		refuseAll(t, []api.Term{zero(), {Kind: kind}}, api.ErrTree, 1)
		refuseAll(t, []api.Term{zero(), {Kind: kind}, zero()}, api.ErrTree, 1)
	}
}

// Promise 17.2: scattered trees, whole and with a field of one term turned.
func TestCheckScattered(t *testing.T) {
	state := uint64(172)
	seen := map[api.Errno]int{}
	for i := range 20000 {
		l := someTree(&state, 1+below(&state, 7), i%2)
		checkTree(t, l)
		place := below(&state, len(l))
		switch p := parts()[below(&state, 10)]; {
		case below(&state, 6) == 0:
			l[place].Kind = below(&state, 10)
		case p.float != nil:
			*p.float(&l[place]) = []float64{0, minus, 1, nan, -inf}[below(&state, 5)]
		default:
			*p.whole(&l[place]) = []int{-1, 0, 1, 2, place - 1, place - 2, place - 3, 46500}[below(&state, 8)]
		}
		checkTree(t, l)
		if below(&state, 2) == 0 {
			l = slices.Delete(l, place, place+1)
		} else {
			l = slices.Insert(l, place, l[below(&state, len(l))])
		}
		checkTree(t, l)
		seen[stepCheck(l).e]++
	}
	if seen[api.OK] < 100 || seen[api.ErrTree] < 10000 {
		t.Errorf("only %v", seen)
	}
}

// Promise 17.8 and rule 3 of DOC.md: what is given stays as it was, its spare room too; what is told is new memory.
func TestMemory(t *testing.T) {
	given := []api.Term{pay(1, 1, 45000), {Kind: api.TRepeat, N: 3, Months: 1}, give(1), pay(2, 2, 45001), both(2, 3), pay(9, 9, 9), pay(8, 8, 8)}
	kept, l := slices.Clone(given), given[:5]
	checkTree(t, l)
	words, _ := deal.Print(l)
	means, _ := deal.Flows(l)
	for i := range means[:cap(means)] {
		means[:cap(means)][i] = f(7, 7, 7)
	}
	checkTree(t, l)
	terms, _, _ := deal.Parse(words)
	for i := range terms[:cap(terms)] {
		terms[:cap(terms)][i] = api.Term{Kind: 77}
	}
	if got := read(deal.Parse(words)); !got.is(tree{l, api.OK, 0}) {
		t.Errorf("Parse(%q) is %v", words, got)
	}
	if !sameTerms(given, kept) {
		t.Errorf("what was given is %v, it was %v", given, kept)
	}
}
