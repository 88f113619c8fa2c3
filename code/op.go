package code

import (
	"math"
	"slices"

	"tenor/api"
)

// kind is a kind of ops that come from terms: its number, that of the terms, and whether it takes the last mark away.
type kind struct {
	op, term int
	takes    bool
}

// kinds is all of them: a mark comes from no term of its own.
func kinds() []kind {
	return []kind{
		{api.OPay, api.TPay, false},
		{api.OFixed, api.TFixed, false},
		{api.OGive, api.TGive, true},
		{api.OScale, api.TScale, true},
		{api.OWindow, api.TWindow, true},
		{api.ORepeat, api.TRepeat, true},
	}
}

// kindOf is the kind of an op; of a mark, and of what is none, one that takes nothing.
func kindOf(o api.Op) kind {
	return find(func(k kind) bool { return k.op == o.Kind })
}

// kindFor is the kind of the op that a term becomes.
func kindFor(t api.Term) kind {
	return find(func(k kind) bool { return k.term == t.Kind })
}

func find(is func(kind) bool) kind {
	all := kinds()
	i := slices.IndexFunc(all, is)
	if i < 0 {
		return kind{}
	}
	return all[i]
}

func opOf(t api.Term) api.Op {
	return api.Op{Kind: kindFor(t).op, X: t.X, Y: t.Y, Day: t.Day, To: t.To, Cur: t.Cur, Count: t.Count, N: t.N, Months: t.Months}
}

// termOf is the term that has the op's fields. Its part is not named yet.
func termOf(o api.Op) api.Term {
	return api.Term{Kind: kindOf(o).term, X: o.X, Y: o.Y, Day: o.Day, To: o.To, Cur: o.Cur, Count: o.Count, N: o.N, Months: o.Months}
}

// fits tells whether the op's kind is one, the fields that it names may be, and the others are 0.
func fits(o api.Op) bool {
	named, may := api.Op{Kind: o.Kind}, true
	switch o.Kind {
	case api.OMark, api.OGive:
	case api.OPay:
		named.X, named.Cur, named.Day = o.X, o.Cur, o.Day
		may = isNumber(o.X) && isCurrency(o.Cur) && isDay(o.Day)
	case api.OFixed:
		named.X, named.Y, named.Count, named.Day, named.To, named.N, named.Cur = o.X, o.Y, o.Count, o.Day, o.To, o.N, o.Cur
		may = isNumber(o.X) && isNumber(o.Y) && within(o.Count, api.D360, api.DEuro) && isDay(o.Day) && isDay(o.To) && o.Day < o.To &&
			within(o.N, 1, api.MaxSteps) && isCurrency(o.Cur)
	case api.OScale:
		named.X = o.X
		may = isNumber(o.X)
	case api.OWindow:
		named.Day, named.To = o.Day, o.To
		may = isDay(o.Day) && isDay(o.To)
	case api.ORepeat:
		named.N, named.Months = o.N, o.Months
		may = within(o.N, 1, api.MaxFlows) && within(o.Months, 1, api.MaxSteps)
	default:
		return false
	}
	// Two structs are equal too where one has -0.
	return may && o == named && api.Bits(o.X) == api.Bits(named.X) && api.Bits(o.Y) == api.Bits(named.Y)
}

func isNumber(x float64) bool {
	return !math.IsNaN(x) && !math.IsInf(x, 0)
}

func isCurrency(n int) bool {
	return within(n, 1, api.MaxCur)
}

func isDay(n int) bool {
	return within(n, 0, api.LastDay)
}

func within(n, least, greatest int) bool {
	return least <= n && n <= greatest
}

// measure is how many marks there are at one time at most; else what is wrong with the code, and with which of its ops.
func measure(l []api.Op) (most int, e api.Errno, at int) {
	if len(l) > api.MaxCode {
		return 0, api.ErrLong, 0
	}
	marks := 0
	for i, o := range l {
		takes := kindOf(o).takes
		switch {
		case !fits(o) || takes && marks == 0:
			return 0, api.ErrCode, i
		case o.Kind == api.OMark && marks == api.MaxDepth-1:
			return 0, api.ErrDeep, i
		case o.Kind == api.OMark:
			marks++
		case takes:
			marks--
		}
		most = max(most, marks)
	}
	if marks > 0 {
		return 0, api.ErrCode, len(l)
	}
	return most, api.OK, 0
}
