package code_test

import (
	"math"
	"slices"
	"testing"

	"tenor/api"
	"tenor/code"
)

// checkCode holds what all calls that are handed code answer, against the chapter's words.
func checkCode(t *testing.T, l []api.Op) verdict {
	t.Helper()
	want := stepCheck(l)
	if want.e != api.OK {
		refuseAll(t, l, want.e, want.at)
		return want
	}
	takeAll(t, l, stepMarks(l))
	checkBack(t, l)
	checkTrim(t, l)
	return want
}

// refuseAll holds that each call answers that error of the code, and nothing beside it.
func refuseAll(t *testing.T, l []api.Op, e api.Errno, at int) {
	t.Helper()
	head := l[:min(len(l), 9)]
	if got := verdictOf(code.Check(l)); got != (verdict{e, at}) {
		t.Errorf("Check of %d ops, %v .., is %v, not %v, %d", len(l), head, got, e, at)
	}
	if got := numberOf(code.Marks(l)); got != (number{0, e}) {
		t.Errorf("Marks of %d ops, %v .., is %v, not %v", len(l), head, got, e)
	}
	if got := termsOf(code.Back(l)); !got.is(terms{nil, e}) {
		t.Errorf("Back of %d ops, %v .., is %v, not %v", len(l), head, got, e)
	}
	if got := opsOf(code.Trim(l)); !got.is(ops{nil, e}) {
		t.Errorf("Trim of %d ops, %v .., is %v, not %v", len(l), head, got, e)
	}
}

// takeAll holds that the code may be, and how many marks it has at one time.
func takeAll(t *testing.T, l []api.Op, marks int) {
	t.Helper()
	if got := verdictOf(code.Check(l)); got != (verdict{api.OK, 0}) {
		t.Errorf("Check of %d ops, %v .., is %v", len(l), l[:min(len(l), 9)], got)
	}
	if got := numberOf(code.Marks(l)); got != (number{marks, api.OK}) {
		t.Errorf("Marks of %d ops, %v .., is %v, not %d", len(l), l[:min(len(l), 9)], got, marks)
	}
	if got := opsOf(code.Trim(l)); got.e != api.OK {
		t.Errorf("Trim of %d ops, %v .., is %v", len(l), l[:min(len(l), 9)], got.e)
	}
}

// The chapter's examples.
func TestExamples(t *testing.T) {
	p := "pay 1 1 2030-01-01"
	op := api.Op{Kind: api.OPay, X: 1, Cur: 1, Day: 47482}
	checkCompile(t, parsed("give both "+p+" zero"), list(mark(), op, give()))
	checkTrimmed(t, compiled("give give "+p), list(op))
	checkTrimmed(t, compiled("scale 2 zero"), nil)
	refuseAll(t, list(give()), api.ErrCode, 0)
	refuseAll(t, list(mark()), api.ErrCode, 1)
	checkTree(t, list(op, op, op), parsed("both both "+p+" "+p+" "+p))
	checkTree(t, nil, parsed("zero"))
	checkNoTree(t, times(65, op), api.ErrDeep)
}

// Promise 18.3: code that may be, and how many marks it has at one time.
func TestCheckTakes(t *testing.T) {
	for _, x := range []struct {
		l     []api.Op
		marks int
	}{
		{nil, 0}, {[]api.Op{}, 0}, {list(pay(1)), 0}, {list(fixed()), 0}, {spelled("(g"), 1}, {spelled("(pg"), 1}, {spelled("(S"), 1}, {spelled("(w"), 1}, {spelled("(R"), 1},
		{spelled("p(pgf"), 1}, {spelled("(g(g(g"), 1}, {spelled("((gg"), 2}, {spelled("(g((gg(g"), 2}, {spelled("((pg(gg(((pggg"), 3}, {spelled("(((ggg(g"), 3},
		{times(8192, pay(1)), 0}, {times(4096, mark(), give()), 1}, {join(times(62, mark()), times(62, give())), 62}, {join(times(63, mark()), times(63, give())), 63},
		{join(times(63, mark()), times(63, give()), times(63, mark()), times(63, scale(2))), 63},
		{join(times(63, mark()), times(4033, give(), mark()), times(63, window(1, 2))), 63},
	} {
		takeAll(t, x.l, x.marks)
		if got := stepCheck(x.l); got != (verdict{api.OK, 0}) {
			t.Errorf("the steps tell %v of %s", got, letters(x.l))
		}
	}
}

// Promise 18.3: marks that do not belong together.
func TestCheckMarks(t *testing.T) {
	for _, x := range []struct {
		l  []api.Op
		at int
	}{
		// Taken away where there is none.
		{spelled("g"), 0}, {spelled("s"), 0}, {spelled("w"), 0}, {spelled("r"), 0}, {spelled("pg"), 1}, {spelled("(gg"), 2}, {spelled("(g(pgpg("), 6}, {spelled("g("), 0},
		{spelled("((ggR("), 4}, {join(times(63, mark()), times(64, give())), 126}, {append(times(8191, pay(1)), give()), 8191},
		// Left at the end.
		{spelled("("), 1}, {spelled("p("), 2}, {spelled("(g("), 3}, {spelled("((g"), 3}, {spelled("((pgpf"), 6}, {times(63, mark()), 63}, {join(times(8129, pay(1)), times(63, mark())), 8192},
		{append(times(8191, pay(1)), mark()), 8192},
		// The first one that is wrong, whatever stands behind it.
		{list(mark(), api.Op{}, give(), give()), 1}, {list(give(), api.Op{}), 0}, {list(api.Op{}, give()), 0}, {list(mark(), give(), give(), mark()), 2}, {append(times(8191, pay(1)), api.Op{}), 8191},
		{append(times(62, mark()), api.Op{Kind: 8}), 62}, {append(times(63, mark()), api.Op{Kind: api.OPay}), 63}, {append(times(63, mark()), api.Op{Kind: api.OMark, N: 1}), 63},
	} {
		if want := stepCheck(x.l); want != (verdict{api.ErrCode, x.at}) {
			t.Fatalf("the steps tell %v of %d ops, %v", want, len(x.l), x.l[:min(len(x.l), 9)])
		}
		refuseAll(t, x.l, api.ErrCode, x.at)
	}
}

// Promise 18.3: code that is too long or too deep.
func TestCheckLimits(t *testing.T) {
	for _, n := range []int{8193, 8194, 20000} {
		refuseAll(t, make([]api.Op, n), api.ErrLong, 0)
		refuseAll(t, times(n, pay(1)), api.ErrLong, 0)
		refuseAll(t, times(n, mark()), api.ErrLong, 0)
		refuseAll(t, times(n, give()), api.ErrLong, 0)
	}
	for _, l := range [][]api.Op{
		times(64, mark()), times(65, mark()), times(8192, mark()), join(times(64, mark()), times(64, give())), append(times(64, mark()), api.Op{}), join(times(64, mark()), times(65, give())),
	} {
		refuseAll(t, l, api.ErrDeep, 63)
	}
	refuseAll(t, join(list(pay(1)), times(64, mark())), api.ErrDeep, 64)
	refuseAll(t, join(times(63, mark()), times(5, pay(1), give(), mark()), list(mark())), api.ErrDeep, 78)
	refuseAll(t, join(times(3, mark(), give()), times(63, mark()), list(give(), mark(), fixed(), mark())), api.ErrDeep, 72)
	refuseAll(t, join(list(give()), times(64, mark())), api.ErrCode, 0)
}

// part is one of an op's fields: how it is set.
type part struct {
	name  string
	whole func(*api.Op) *int
	float func(*api.Op) *float64
}

func parts() []part {
	return []part{
		{name: "X", float: func(o *api.Op) *float64 { return &o.X }},
		{name: "Y", float: func(o *api.Op) *float64 { return &o.Y }},
		{name: "Day", whole: func(o *api.Op) *int { return &o.Day }},
		{name: "To", whole: func(o *api.Op) *int { return &o.To }},
		{name: "Cur", whole: func(o *api.Op) *int { return &o.Cur }},
		{name: "Count", whole: func(o *api.Op) *int { return &o.Count }},
		{name: "N", whole: func(o *api.Op) *int { return &o.N }},
		{name: "Months", whole: func(o *api.Op) *int { return &o.Months }},
	}
}

// standing is code of the op and the mark that it takes or sets, and the op's place there.
func standing(o api.Op) ([]api.Op, int) {
	switch o.Kind {
	case api.OMark:
		return list(pay(1), o, give()), 1
	case api.OPay, api.OFixed:
		return list(pay(1), o), 1
	}
	return list(mark(), pay(1), o), 2
}

// samples is an op of each kind, by its name in the tables below.
func samples() map[string]api.Op {
	return map[string]api.Op{
		"mark": mark(), "pay": pay(3), "fixed": {Kind: api.OFixed, X: 3, Y: 4, Count: api.DAct, Day: 46000, To: 46500, N: 12, Cur: 3}, "give": give(), "scale": scale(2),
		"window": window(46000, 47000), "repeat": repeat(2, 3),
	}
}

// Promises 18.1 and 18.3: each field of each kind: those that it names within their bounds, the others 0.
func TestCheckFields(t *testing.T) {
	good := map[string][]int{
		"pay Cur": {1, 2, 7, 8}, "pay Day": {0, 1, 109571, 109572}, "fixed Count": {1, 2, 3, 4, 5}, "fixed Day": {0, 1, 46499}, "fixed To": {46001, 109571, 109572},
		"fixed N": {1, 2, 1199, 1200}, "fixed Cur": {1, 2, 7, 8}, "window Day": {0, 1, 46999, 47000, 47001, 109572}, "window To": {0, 1, 45999, 46000, 109571, 109572},
		"repeat N": {1, 2, 4095, 4096}, "repeat Months": {1, 2, 1199, 1200},
	}
	bad := map[string][]int{
		"pay Cur": {0, 9}, "pay Day": {-1, 109573}, "fixed Count": {0, 6, 7}, "fixed Day": {-1, 46500, 46501, 109572, 109573}, "fixed To": {-1, 0, 45999, 46000, 109573},
		"fixed N": {0, 1201, 4096}, "fixed Cur": {0, 9}, "window Day": {-1, 109573}, "window To": {-1, 109573}, "repeat N": {0, 4097}, "repeat Months": {0, 1201, 4096},
	}
	far := []int{math.MinInt, math.MinInt + 1, -1 << 32, 1<<32 + 1, math.MaxInt}
	for word, o := range samples() {
		for _, p := range parts() {
			name := word + " " + p.name
			if p.float != nil {
				checkFloat(t, o, p, slices.Contains([]string{"pay X", "fixed X", "fixed Y", "scale X"}, name))
				continue
			}
			takes, refuses := good[name], append(bad[name], far...)
			if takes == nil {
				takes, refuses = []int{0}, append(refuses, -1, 1, 2, 3, 46500)
			}
			for _, n := range takes {
				checkField(t, o, func(o *api.Op) { *p.whole(o) = n }, true)
			}
			for _, n := range refuses {
				checkField(t, o, func(o *api.Op) { *p.whole(o) = n }, false)
			}
		}
	}
	for _, kind := range append(far, -1, 0, 8, 9, 10, 257) {
		checkField(t, api.Op{}, func(o *api.Op) { o.Kind = kind }, false)
		refuseAll(t, list(api.Op{Kind: kind}), api.ErrCode, 0)
	}
}

// checkFloat holds which floats a field takes: numbers, or +0 alone.
func checkFloat(t *testing.T, o api.Op, p part, named bool) {
	t.Helper()
	for _, x := range []float64{0, minus, 1, -1, least, -least, greatest, -greatest, nan, inf, -inf, math.Float64frombits(0xfff0000000000001)} {
		checkField(t, o, func(o *api.Op) { *p.float(o) = x }, named && isNumber(x) || !named && math.Float64bits(x) == 0)
	}
}

// checkField holds whether an op with a field set may be.
func checkField(t *testing.T, o api.Op, set func(*api.Op), takes bool) {
	t.Helper()
	l, at := standing(o)
	set(&l[at])
	if takes {
		takeAll(t, l, stepMarks(l))
		checkCode(t, l)
	} else {
		refuseAll(t, l, api.ErrCode, at)
	}
}

// Promise 18.3: scattered code, whole and with an op turned, left out or put in.
func TestCheckScattered(t *testing.T) {
	state := uint64(183)
	seen := map[api.Errno]int{}
	for i := range 12000 {
		l := someCode(&state, below(&state, 24), i%3, 2+i%5)
		if got := checkCode(t, l); got.e != api.OK {
			t.Fatalf("the steps tell %v of %s", got, letters(l))
		}
		if len(l) == 0 {
			continue
		}
		place := below(&state, len(l))
		turned := slices.Clone(l)
		switch p := parts()[below(&state, 8)]; {
		case below(&state, 6) == 0:
			turned[place].Kind = below(&state, 9)
		case p.float != nil:
			*p.float(&turned[place]) = []float64{0, minus, 1, nan, -inf}[below(&state, 5)]
		default:
			*p.whole(&turned[place]) = []int{-1, 0, 1, 2, 46500}[below(&state, 5)]
		}
		seen[checkCode(t, turned).e]++
		seen[checkCode(t, slices.Delete(slices.Clone(l), place, place+1)).e]++
		seen[checkCode(t, slices.Insert(slices.Clone(l), place, l[below(&state, len(l))])).e]++
	}
	if seen[api.OK] < 10000 || seen[api.ErrCode] < 10000 {
		t.Errorf("only %v", seen)
	}
}

// Promise 18.3: scattered code about the greatest number of marks.
func TestCheckDeep(t *testing.T) {
	state := uint64(64)
	seen := map[api.Errno]int{}
	for range 2000 {
		l := times(58+below(&state, 4), mark())
		marks := len(l)
		for range 20 {
			if below(&state, 5) < 3 {
				l, marks = append(l, mark()), marks+1
			} else {
				l, marks = append(l, someTaker(&state, false)), marks-1
			}
		}
		l = append(l, times(max(marks, 0), give())...)
		seen[checkCode(t, l).e]++
	}
	if seen[api.OK] < 300 || seen[api.ErrDeep] < 300 {
		t.Errorf("only %v", seen)
	}
}

// spare is a list with room behind it, and all of that memory.
func spare[T any](l []T, filler T) (short, all []T) {
	all = append(slices.Clone(l), filler, filler, filler)
	return all[:len(l)], all
}

// spoil writes over a list and the room behind it.
func spoil[T any](l []T, filler T) {
	l = l[:cap(l)]
	for i := range l {
		l[i] = filler
	}
}

// Promise 18.8 and rule 3 of DOC.md: what is given stays as it was, its spare room too; what is told is new memory.
func TestMemory(t *testing.T) {
	strange, strangeTerm := api.Op{Kind: 77, X: 7, N: 7}, api.Term{Kind: 77, X: 7, N: 7}
	for _, s := range []string{"p", "pf", "(pfS", "p(pg", "((pgg", "p(psp", "(p(pgS"} {
		l, all := spare(spelled(s), strange)
		kept := slices.Clone(all)
		tree, _ := code.Back(l)
		short, _ := code.Trim(l)
		again, _ := code.Compile(tree)
		code.Check(l)
		code.Marks(l)
		if !(ops{all, 0}).is(ops{kept, 0}) {
			t.Errorf("%s was changed", s)
		}
		spoil(short, strange)
		if !(ops{all, 0}).is(ops{kept, 0}) {
			t.Errorf("Trim of %s lies in what was given", s)
		}
		if !(ops{again, 0}).is(ops{l, 0}) {
			t.Errorf("%s, back and compiled, is %s", s, letters(again))
		}
		given, allTerms := spare(tree, strangeTerm)
		keptTerms := slices.Clone(allTerms)
		code.Compile(given)
		if !(terms{allTerms, 0}).is(terms{keptTerms, 0}) {
			t.Errorf("the tree of %s was changed", s)
		}
		spoil(tree, strangeTerm)
		spoil(again, strange)
		checkCode(t, l)
	}
}

// Promise 18.8: the longest code, as steep and as flat as may be.
func TestWork(t *testing.T) {
	inner := join(times(62, mark()), times(7000, pay(1)), times(62, scale(1)))
	checkTrimmed(t, join(list(mark()), inner, list(scale(1))), times(7000, pay(1)))
	checkTrimmed(t, join(times(63, mark()), times(8066, pay(1)), times(63, give())), join(list(mark()), times(8066, pay(1)), list(give())))
	checkTrimmed(t, times(4096, mark(), repeat(4096, 1200)), nil)
	checkTrimmed(t, join(times(63, mark()), times(4033, give(), mark()), times(63, window(1, 2))), nil)
	checkTrimmed(t, times(1638, mark(), mark(), pay(1), give(), give()), times(1638, pay(1)))
	checkTrimmed(t, times(8192, fixed()), times(8192, fixed()))
	checkNoTree(t, times(8192, fixed()), api.ErrLong)
	checkNoTree(t, times(4096, mark(), repeat(4096, 1200)), api.ErrLong)
}
