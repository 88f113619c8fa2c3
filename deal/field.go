package deal

import (
	"math"
	"slices"
	"strconv"

	"tenor/api"
	"tenor/date"
	"tenor/text"
)

// field is a field of a term that is written as a word.
type field struct {
	read  func(t *api.Term, word string) bool // false: the word is none of its form
	fits  func(t api.Term) bool               // whether it is within its bounds
	write func(t api.Term) string             // of one that is
	clear func(t *api.Term)
}

// number is a field that holds a number; at tells where it lies.
func number(at func(*api.Term) *float64) field {
	return field{
		read: func(t *api.Term, word string) bool {
			x, e := text.Parse(word)
			if e != api.OK {
				x, e = text.Unhex(word)
			}
			*at(t) = x
			return e == api.OK
		},
		fits: func(t api.Term) bool { return isNumber(*at(&t)) },
		write: func(t api.Term) string {
			s, _ := text.Hex(*at(&t))
			return s
		},
		clear: func(t *api.Term) { *at(t) = 0 },
	}
}

// whole is a field that holds a whole number from least to greatest, with words of a form of its own; at tells where it lies.
func whole(at func(*api.Term) *int, least, greatest int, read func(string) (int, bool), write func(int) string) field {
	return field{
		read: func(t *api.Term, word string) bool {
			n, ok := read(word)
			*at(t) = n
			return ok
		},
		fits:  func(t api.Term) bool { return least <= *at(&t) && *at(&t) <= greatest },
		write: func(t api.Term) string { return write(*at(&t)) },
		clear: func(t *api.Term) { *at(t) = 0 },
	}
}

// upTo is a field that counts from 1 on.
func upTo(greatest int, at func(*api.Term) *int) field {
	return whole(at, 1, greatest, text.Int, strconv.Itoa)
}

// day is a field that holds a day.
func day(at func(*api.Term) *int) field {
	return whole(at, 0, api.LastDay, readDay, writeDay)
}

func readDay(word string) (int, bool) {
	n, e := date.Parse(word)
	return n, e == api.OK
}

func writeDay(n int) string {
	s, _ := date.Print(n)
	return s
}

// behindDay is the field of To, where that must be above Day as well.
func behindDay(to field) field {
	isDay := to.fits
	to.fits = func(t api.Term) bool { return isDay(t) && t.Day < t.To }
	return to
}

// counted is a field that holds a day count.
func counted(at func(*api.Term) *int) field {
	return whole(at, api.D360, api.DEuro, readCount, writeCount)
}

// counts is the words of the day counts from D360 on.
func counts() []string {
	return []string{"act360", "act365", "actact", "bond", "euro"}
}

func readCount(word string) (int, bool) {
	i := slices.Index(counts(), word)
	return api.D360 + i, i >= 0
}

func writeCount(n int) string {
	return counts()[n-api.D360]
}

func isNumber(x float64) bool {
	return !math.IsNaN(x) && !math.IsInf(x, 0)
}
