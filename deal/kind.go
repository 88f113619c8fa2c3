package deal

import (
	"slices"

	"tenor/api"
)

// kind is what there is to know of the terms of one kind.
type kind struct {
	number int
	word   string
	fields []field // in the order of their words, which stand behind the kind's own
	parts  int     // how many terms stand behind these
	mean   func(*meaning, api.Term) api.Errno
}

// table is all kinds.
type table []kind

// kinds makes the table by which every call tells kinds apart.
func kinds() table {
	n := func(t *api.Term) *int { return &t.N }
	x := number(func(t *api.Term) *float64 { return &t.X })
	y := number(func(t *api.Term) *float64 { return &t.Y })
	count := counted(func(t *api.Term) *int { return &t.Count })
	from := day(func(t *api.Term) *int { return &t.Day })
	to := day(func(t *api.Term) *int { return &t.To })
	cur := upTo(api.MaxCur, func(t *api.Term) *int { return &t.Cur })
	months := upTo(api.MaxSteps, func(t *api.Term) *int { return &t.Months })
	return table{
		{api.TZero, "zero", nil, 0, (*meaning).zero},
		{api.TPay, "pay", []field{x, cur, from}, 0, (*meaning).pay},
		{api.TFixed, "fixed", []field{x, y, count, from, behindDay(to), upTo(api.MaxSteps, n), cur}, 0, (*meaning).fixed},
		{api.TGive, "give", nil, 1, (*meaning).give},
		{api.TBoth, "both", nil, 2, (*meaning).both},
		{api.TScale, "scale", []field{x}, 1, (*meaning).scale},
		{api.TWindow, "window", []field{from, to}, 1, (*meaning).window},
		{api.TRepeat, "repeat", []field{upTo(api.MaxFlows, n), months}, 1, (*meaning).repeat},
	}
}

func (l table) ofNumber(number int) (kind, bool) {
	return l.find(func(k kind) bool { return k.number == number })
}

func (l table) ofWord(word string) (kind, bool) {
	return l.find(func(k kind) bool { return k.word == word })
}

func (l table) find(is func(kind) bool) (kind, bool) {
	i := slices.IndexFunc(l, is)
	if i < 0 {
		return kind{}, false
	}
	return l[i], true
}

// fits tells whether the fields that the kind names may be, and whether the others are 0. Which places it names is not asked here.
func (k kind) fits(t api.Term) bool {
	rest := t
	for _, f := range k.fields {
		if !f.fits(t) {
			return false
		}
		f.clear(&rest)
	}
	if k.parts > 0 {
		rest.A = 0
	}
	if k.parts > 1 {
		rest.B = 0
	}
	// Two structs are equal too where one has -0.
	return rest == api.Term{Kind: k.number} && api.Bits(rest.X) == 0 && api.Bits(rest.Y) == 0
}

// partsOf is the places of the term's parts.
func (k kind) partsOf(t api.Term) []int {
	return []int{t.A, t.B}[:k.parts]
}

// words is the term's own, ahead of those of its parts.
func (k kind) words(t api.Term) []string {
	l := []string{k.word}
	for _, f := range k.fields {
		l = append(l, f.write(t))
	}
	return l
}
