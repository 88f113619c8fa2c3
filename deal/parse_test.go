package deal_test

import (
	"slices"
	"strconv"
	"strings"
	"testing"

	"tenor/api"
	"tenor/deal"
	"tenor/text"
)

// checkParse holds one answer of Parse.
func checkParse(t *testing.T, s string, want tree) {
	t.Helper()
	if got := read(deal.Parse(s)); !got.is(want) {
		t.Errorf("Parse(%q ..) is %v, not %v", s[:min(len(s), 300)], got, want)
	}
}

// checkText holds Parse of a text against the chapter's words, and that what it tells is printed and read again.
func checkText(t *testing.T, s string) tree {
	t.Helper()
	want := stepParse(s)
	checkParse(t, s, want)
	if want.e == api.OK {
		checkRound(t, want.t)
	}
	return want
}

// checkRound holds that the words of a tree are read as the tree.
func checkRound(t *testing.T, l []api.Term) {
	t.Helper()
	s, e := deal.Print(l)
	if e != api.OK || len(s) > api.MaxText {
		t.Fatalf("Print(%v) is %d bytes, %v", l, len(s), e)
	}
	checkParse(t, s, tree{l, api.OK, 0})
}

// The chapter's examples.
func TestExamples(t *testing.T) {
	for _, x := range []struct {
		s    string
		want list
	}{
		{"pay 100 1 2030-01-01", flows(f(47482, 100, 1))},
		{"scale 0.5 both pay 1 1 2030-01-01 give pay 3 2 2031-01-01", flows(f(47482, 0.5, 1), f(47847, -1.5, 2))},
		{"repeat 3 12 pay 5 1 2030-01-31", flows(f(47512, 5, 1), f(47877, 5, 1), f(48242, 5, 1))},
		{"window 2030-01-01 2031-01-01 repeat 3 12 pay 5 1 2030-01-31", flows(f(47512, 5, 1))},
		{"fixed 100 0.05 euro 2025-01-15 2026-01-15 6 1", flows(f(45851, 2.5, 1), f(46035, 2.5, 1))},
	} {
		l, e, at := deal.Parse(x.s)
		if got := told(deal.Flows(l)); e != api.OK || at != 0 || !got.is(x.want) {
			t.Errorf("%q is %v, %v, %d, not %v", x.s, got, e, at, x.want)
		}
	}
	checkParse(t, "pay 1 9 2030-01-01", refused(api.ErrWord, 6))
	checkParse(t, "both zero", refused(api.ErrWord, 9))
	checkParse(t, "zero zero", refused(api.ErrWord, 5))
	checkParse(t, "", refused(api.ErrWord, 0))
}

// texts is a text of each kind, without parts that mean anything, and its tree.
func texts() map[string][]api.Term {
	return map[string][]api.Term{
		"zero":                  {zero()},
		"pay -1.5 8 2025-01-01": {pay(-1.5, 8, 45656)},
		"fixed 100 0x1p-3 actact 1900-01-01 2199-12-31 1200 2": {{Kind: api.TFixed, X: 100, Y: 0.125, Count: api.DAct, Day: 0, To: 109572, N: 1200, Cur: 2}},
		"give zero":                         {zero(), give(0)},
		"both zero pay 1 1 1900-01-02":      {zero(), pay(1, 1, 1), both(0, 1)},
		"scale -0 zero":                     {zero(), {Kind: api.TScale, X: minus}},
		"window 2025-01-01 1900-01-01 zero": {zero(), {Kind: api.TWindow, Day: 45656, To: 0}},
		"repeat 4096 1200 zero":             {zero(), {Kind: api.TRepeat, N: 4096, Months: 1200}},
	}
}

// Promise 17.3: each kind's words, and the order of the terms.
func TestParseKinds(t *testing.T) {
	for s, l := range texts() {
		checkParse(t, s, tree{l, api.OK, 0})
		checkText(t, s)
	}
	checkParse(t, "both both pay 1 1 1900-01-01 pay 2 1 1900-01-01 give both pay 3 1 1900-01-01 pay 4 1 1900-01-01", tree{[]api.Term{
		pay(1, 1, 0), pay(2, 1, 0), both(0, 1), pay(3, 1, 0), pay(4, 1, 0), both(3, 4), give(5), both(2, 6)}, api.OK, 0})
	checkParse(t, "both pay 1 1 1900-01-01 both pay 2 1 1900-01-01 both pay 3 1 1900-01-01 pay 4 1 1900-01-01", tree{[]api.Term{
		pay(1, 1, 0), pay(2, 1, 0), pay(3, 1, 0), pay(4, 1, 0), both(2, 3), both(1, 4), both(0, 5)}, api.OK, 0})
	for i, word := range []string{"act360", "act365", "actact", "bond", "euro"} {
		checkParse(t, "fixed 1 2 "+word+" 1900-01-01 1900-01-02 1 1", tree{[]api.Term{{Kind: api.TFixed, X: 1, Y: 2, Count: api.D360 + i, To: 1, N: 1, Cur: 1}}, api.OK, 0})
	}
}

// Promise 17.3: the words of a tree.
func TestPrint(t *testing.T) {
	for _, x := range []struct {
		l    []api.Term
		want string
	}{
		{[]api.Term{zero()}, "zero"},
		{[]api.Term{pay(100, 1, 47482)}, "pay 0x1.9p+6 1 2030-01-01"},
		{[]api.Term{pay(minus, 8, 0)}, "pay -0x0p+0 8 1900-01-01"},
		{[]api.Term{fixed()}, "fixed 0x1.9p+6 0x1.999999999999ap-5 euro 2023-03-17 2024-03-16 6 1"},
		{[]api.Term{{Kind: api.TFixed, X: -least, Y: 0, Count: api.D360, Day: 109571, To: 109572, N: 1200, Cur: 8}}, "fixed -0x1p-1074 0x0p+0 act360 2199-12-30 2199-12-31 1200 8"},
		{[]api.Term{zero(), give(0)}, "give zero"},
		{[]api.Term{zero(), pay(1, 1, 1), both(0, 1)}, "both zero pay 0x1p+0 1 1900-01-02"},
		{[]api.Term{pay(1, 1, 1), zero(), both(0, 1), {Kind: api.TScale, A: 2, X: 0.1}}, "scale 0x1.999999999999ap-4 both pay 0x1p+0 1 1900-01-02 zero"},
		{[]api.Term{zero(), {Kind: api.TWindow, Day: 45656, To: 0}}, "window 2025-01-01 1900-01-01 zero"},
		{[]api.Term{zero(), {Kind: api.TRepeat, N: 4096, Months: 1200}, zero(), both(1, 2)}, "both repeat 4096 1200 zero zero"},
	} {
		if got := wrote(deal.Print(x.l)); got != (printed{x.want, api.OK}) {
			t.Errorf("Print(%v) is %v, not %q", x.l, got, x.want)
		}
		checkRound(t, x.l)
	}
}

// Promise 17.3: words are what blanks part, and nothing else does.
func TestParseBlanks(t *testing.T) {
	for s, l := range texts() {
		words := strings.Fields(s)
		for _, gap := range []string{" ", "  ", "       "} {
			for _, ahead := range []string{"", " ", "    "} {
				for _, behind := range []string{"", " ", "    "} {
					checkParse(t, ahead+strings.Join(words, gap)+behind, tree{l, api.OK, 0})
				}
			}
		}
		for _, sign := range []string{"\t", "\n", "\r", "\v", "\f", "\x00", "\u00a0", "\u2003", ",", "\x80", "_"} {
			checkParse(t, sign+s, refused(api.ErrWord, 0))
			checkParse(t, " "+sign+" "+s, refused(api.ErrWord, 1))
			checkParse(t, s+sign, refused(api.ErrWord, strings.LastIndexByte(s, ' ')+1))
			checkParse(t, s+" "+sign, refused(api.ErrWord, len(s)+1))
			if len(words) > 1 {
				checkText(t, strings.Join(words, sign))
				checkParse(t, strings.Join(words, sign), refused(api.ErrWord, 0))
			}
		}
	}
	for _, n := range []int{0, 1, 7, 65536} {
		checkParse(t, strings.Repeat(" ", n), refused(api.ErrWord, n))
	}
}

// Promise 17.3: numbers in all of their forms.
func TestParseNumbers(t *testing.T) {
	for word, x := range map[string]float64{
		"1": 1, "007": 7, "-0": minus, "0": 0, "0.1": 0.1, "12.5e-1": 1.25, "1e308": 1e308, "-1e+2": -100, "1e-400": 0, "-1e-400": minus, "9007199254740993": 9007199254740992,
		"0x0p+0": 0, "-0x0p+0": minus, "0x1.8p+0": 1.5, "-0x1p-1074": -least, "0x1.fffffffffffffp+1023": greatest, strings.Repeat("0", 399) + "7": 7,
	} {
		checkParse(t, "pay "+word+" 1 1900-01-01", tree{[]api.Term{pay(x, 1, 0)}, api.OK, 0})
		checkParse(t, "scale "+word+" zero", tree{[]api.Term{zero(), {Kind: api.TScale, X: x}}, api.OK, 0})
		checkParse(t, "fixed "+word+" 1 euro 1900-01-01 1900-01-02 1 1", tree{[]api.Term{{Kind: api.TFixed, X: x, Y: 1, Count: 5, To: 1, N: 1, Cur: 1}}, api.OK, 0})
		checkParse(t, "fixed 1 "+word+" euro 1900-01-01 1900-01-02 1 1", tree{[]api.Term{{Kind: api.TFixed, X: 1, Y: x, Count: 5, To: 1, N: 1, Cur: 1}}, api.OK, 0})
	}
	for _, word := range []string{"1e400", "-1e400", "+1", ".5", "1.", "1e", "1e12345", "0x1", "0x1p0", "0X1p+0", "0x1.80p+0", "0x2p+0", "0x1p+1024", "nan", "NaN", "inf", "-Inf", "Infinity", "1_0", "x", "--1", "zero", strings.Repeat("0", 400) + "7"} {
		checkParse(t, "pay "+word+" 1 1900-01-01", refused(api.ErrWord, 4))
		checkParse(t, "scale "+word+" zero", refused(api.ErrWord, 6))
		checkParse(t, "fixed "+word+" 1 euro 1900-01-01 1900-01-02 1 1", refused(api.ErrWord, 6))
		checkParse(t, "fixed 1 "+word+" euro 1900-01-01 1900-01-02 1 1", refused(api.ErrWord, 8))
	}
}

// holed is texts with the place of one word left open, and what may stand there, and what may not.
func holed() []struct {
	ahead, behind string
	good, bad     []string
} {
	ints := []string{"-1", "0", "01", "+1", "1.0", "1e0", "0x1p+0", "x", "1x", "9223372036854775808", "4294967297", "18446744073709551617"}
	days := []string{"2025-02-29", "2025-1-1", "1899-12-31", "2200-01-01", "20250101", "2025-13-01", "2025-00-10", "2025-01-00", "45656", "0", "2025/01/01", "2025-01-01x"}
	return []struct {
		ahead, behind string
		good, bad     []string
	}{
		{"pay 1 ", " 2030-01-01", []string{"1", "2", "7", "8"}, append([]string{"9", "10", "-8"}, ints...)},
		{"pay 1 1 ", "", []string{"1900-01-01", "2024-02-29", "2199-12-31"}, days},
		{"fixed 1 1 ", " 2025-01-01 2026-01-01 6 1", []string{"act360", "act365", "actact", "bond", "euro"}, []string{"open", "Act360", "act", "act364", "eur", "euros", "1", "0", "act/360"}},
		{"fixed 1 1 euro ", " 2025-01-02 6 1", []string{"2025-01-01", "1900-01-01"}, days},
		{"fixed 1 1 euro 2025-01-01 ", " 6 1", []string{"2025-01-02", "2199-12-31"}, append([]string{"2025-01-01", "2024-12-31", "1900-01-01"}, days...)},
		{"fixed 1 1 euro 2025-01-01 2026-01-01 ", " 1", []string{"1", "2", "1199", "1200"}, append([]string{"1201", "4096", "-6"}, ints...)},
		{"fixed 1 1 euro 2025-01-01 2026-01-01 6 ", "", []string{"1", "2", "7", "8"}, append([]string{"9", "1200"}, ints...)},
		{"window ", " 2025-01-01 zero", []string{"1900-01-01", "2025-01-01", "2025-01-02", "2199-12-31"}, days},
		{"window 2025-01-01 ", " zero", []string{"1900-01-01", "2025-01-01", "2025-01-02", "2199-12-31"}, days},
		{"repeat ", " 1 zero", []string{"1", "2", "1200", "1201", "4095", "4096"}, append([]string{"4097", "-4096"}, ints...)},
		{"repeat 1 ", " zero", []string{"1", "2", "1199", "1200"}, append([]string{"1201", "4096"}, ints...)},
		{"", "", []string{"zero"}, []string{"Zero", "ZERO", "zer", "zeros", "1", "pays", "T", "-", "both,", "act360", "\"zero\""}},
		{"give ", "", []string{"zero"}, []string{"Zero", "zer", "1", "gives", "2025-01-01", "euro", "X"}},
		{"both ", " zero", []string{"zero"}, []string{"Zero", "1", "bothh"}},
		{"both zero ", "", []string{"zero", "give zero"}, []string{"Zero", "1", "bothh"}},
		{"scale 1 ", "", []string{"zero"}, []string{"Zero", "1", "0x1p+0"}},
	}
}

// Promise 17.3: each word's form and bounds, and its place where it is wrong.
func TestParseBounds(t *testing.T) {
	for _, x := range holed() {
		for _, word := range x.good {
			if got := checkText(t, x.ahead+word+x.behind); got.e != api.OK {
				t.Errorf("%q is refused: %v", x.ahead+word+x.behind, got)
			}
		}
		for _, word := range x.bad {
			for _, ahead := range []string{"", "  ", "both give zero ", "repeat 2 1 both pay 1 1 2020-01-01   "} {
				for _, behind := range []string{"", " ", x.behind, " zero", x.behind + " nonsense 1 2 3"} {
					if behind != "" && !strings.HasPrefix(behind, " ") {
						continue
					}
					checkParse(t, ahead+x.ahead+word+behind, refused(api.ErrWord, len(ahead+x.ahead)))
				}
			}
		}
	}
}

// Promise 17.3: texts that end too soon, or go on.
func TestParseEnds(t *testing.T) {
	for s, l := range texts() {
		words := strings.Fields(s)
		for n := range len(words) {
			cut := strings.Join(words[:n], " ")
			for _, blanks := range []string{"", " ", "   "} {
				checkParse(t, cut+blanks, refused(api.ErrWord, len(cut+blanks)))
				checkParse(t, "both zero "+cut+blanks, refused(api.ErrWord, len("both zero "+cut+blanks)))
			}
		}
		for _, more := range []string{"zero", "x", "1", "pay 1 1 2020-01-01", "-", strings.Repeat("z", 1000), "both"} {
			checkParse(t, s+" "+more, refused(api.ErrWord, len(s)+1))
			checkParse(t, "  "+s+"   "+more+" ", refused(api.ErrWord, len(s)+5))
		}
		checkParse(t, s+strings.Repeat(" ", 65536-len(s)), tree{l, api.OK, 0})
		checkParse(t, strings.Repeat(" ", 65536-len(s))+s, tree{l, api.OK, 0})
		checkParse(t, s+strings.Repeat(" ", 65537-len(s)), refused(api.ErrLong, 0))
		checkParse(t, strings.Repeat(" ", 65537-len(s))+s, refused(api.ErrLong, 0))
	}
	for _, n := range []int{65537, 65538, 1 << 20} {
		checkParse(t, strings.Repeat("x", n), refused(api.ErrLong, 0))
		checkParse(t, strings.Repeat(" ", n), refused(api.ErrLong, 0))
		checkParse(t, strings.Repeat("give ", n), refused(api.ErrLong, 0))
	}
	checkParse(t, strings.Repeat("x", 65536), refused(api.ErrWord, 0))
	checkParse(t, "pay "+strings.Repeat("1", 65532), refused(api.ErrWord, 4))
}

// spelled is a tree's words, the shortest way.
func spelled(l []api.Term) string { return stepPrint(l, len(l)-1) }

// Promise 17.3: as many terms, and as deep, as may be, and one more.
func TestParseLimits(t *testing.T) {
	gives := func(n int) string { return strings.Repeat("give ", n) }
	checkParse(t, gives(63)+"zero", tree{chain(63), api.OK, 0})
	checkParse(t, gives(64)+"zero", refused(api.ErrDeep, 320))
	checkParse(t, gives(64)+"pay x", refused(api.ErrDeep, 320))
	checkParse(t, gives(64)+"nothing", refused(api.ErrWord, 320))
	checkParse(t, gives(64), refused(api.ErrWord, 320))
	checkParse(t, gives(65)+"zero", refused(api.ErrDeep, 320))
	checkParse(t, gives(13000), refused(api.ErrDeep, 320))
	checkParse(t, strings.Repeat("both ", 13000), refused(api.ErrDeep, 320))
	if got := checkText(t, strings.Repeat("both zero ", 63)+"zero"); len(got.t) != 127 {
		t.Errorf("%v", got)
	}
	checkParse(t, strings.Repeat("both zero ", 64)+"zero", refused(api.ErrDeep, 635))
	if got := checkText(t, "both zero "+gives(62)+"zero"); len(got.t) != 65 {
		t.Errorf("%v", got)
	}
	if got := checkText(t, "both "+gives(62)+"zero give zero"); len(got.t) != 66 {
		t.Errorf("%v", got)
	}
	checkParse(t, "both zero "+gives(63)+"zero", refused(api.ErrDeep, 10+315))
	checkParse(t, "both "+gives(63)+"zero zero", refused(api.ErrDeep, 5+315))
	// 1,023 terms, and one or two about them.
	full := spelled(bush(9))
	checkParse(t, full, tree{bush(9), api.OK, 0})
	checkParse(t, "give "+full, tree{append(bush(9), give(1022)), api.OK, 0})
	checkParse(t, "give give "+full, refused(api.ErrLong, len("give give "+full)-4))
	checkParse(t, "both zero "+full, refused(api.ErrLong, len("both zero "+full)-4))
	checkParse(t, "give give "+full+" zero", refused(api.ErrLong, len("give give "+full)-4))
	checkParse(t, "both "+full+" zero", refused(api.ErrLong, len("both "+full+" ")))
	checkParse(t, "both "+full+" give zero", refused(api.ErrLong, len("both "+full+" ")))
	checkParse(t, "both "+full+" pay x", refused(api.ErrLong, len("both "+full+" ")))
	checkParse(t, "both "+full+" nothing", refused(api.ErrWord, len("both "+full+" ")))
	checkParse(t, "both "+full, refused(api.ErrWord, len("both "+full)))
	checkParse(t, "give "+full+" zero", refused(api.ErrWord, len("give "+full+" ")))
	checkParse(t, "give "+full+" give zero", refused(api.ErrWord, len("give "+full+" ")))
}

// crowded is the words of 1,017 + gives terms, of which none is whole that has the next word as a part: that one would begin a term 65 deep.
func crowded(gives int) string {
	s := ""
	for _, l := range [][]api.Term{bush(8), bush(7), bush(6), chain(gives)} {
		s += "both " + spelled(l) + " "
	}
	return s + strings.Repeat("both zero ", 59) + "give "
}

// Promise 17.3: one term too many ahead of one too deep.
func TestParseLongAndDeep(t *testing.T) {
	for gives, want := range []api.Errno{api.ErrDeep, api.ErrDeep, api.ErrDeep, api.ErrDeep, api.ErrDeep, api.ErrDeep, api.ErrDeep, api.ErrLong, api.ErrLong} {
		s := crowded(gives)
		at := len(s)
		if gives == 8 {
			at -= len("give ")
		}
		for _, next := range []string{"zero", "give zero", "pay 1 1 2030-01-01", "both zero zero zero"} {
			checkParse(t, s+next, refused(want, at))
		}
		if gives < 8 {
			checkParse(t, s+"nothing", refused(api.ErrWord, at))
			checkParse(t, s, refused(api.ErrWord, at))
		}
	}
}

// Promise 17.6 and W7 of DOC.md: a tree, printed and read, is the tree.
func TestRound(t *testing.T) {
	state := uint64(176)
	for range 8000 {
		checkRound(t, someTree(&state, 1+below(&state, 12), below(&state, 11)))
	}
	checkRound(t, chain(63))
	checkRound(t, comb(63))
	// The longest words that a tree can have.
	longest := api.Term{Kind: api.TFixed, X: -0x1.fffffffffffffp-1022, Y: -0x1.fffffffffffffp-1021, Count: api.DAct, Day: 109571, To: 109572, N: 1200, Cur: 8}
	l := bush(9)
	for i := range l {
		if l[i].Kind == api.TZero {
			l[i] = longest
		}
	}
	checkRound(t, append(l, api.Term{Kind: api.TScale, A: 1022, X: longest.X}))
}

// someWord is another text of what that word says, where it has one.
func someWord(state *uint64, word string) string {
	if !strings.Contains(word, "0x") {
		return word
	}
	x, _ := text.Unhex(word)
	switch s := strconv.FormatFloat(x, 'e', -1, 64); below(state, 4) {
	case 0:
		return s
	case 1:
		size, below0 := strings.CutPrefix(s, "-")
		size = strings.Repeat("0", below(state, 9)) + size
		if below0 {
			return "-" + size
		}
		return size
	case 2:
		if s = strconv.FormatFloat(x, 'f', -1, 64); len(s) <= api.MaxDigits {
			return s
		}
	}
	return word
}

// Promise 17.6: whatever blanks and forms of numbers a text has.
func TestForms(t *testing.T) {
	state := uint64(1760)
	turned := 0
	for range 6000 {
		l := someTree(&state, 1+below(&state, 8), below(&state, 11))
		s := strings.Repeat(" ", below(&state, 3))
		for _, word := range strings.Fields(spelled(l)) {
			s += someWord(&state, word) + strings.Repeat(" ", 1+below(&state, 3))
		}
		s = strings.TrimRight(s, " ") + strings.Repeat(" ", below(&state, 3))
		if s != spelled(l) {
			turned++
		}
		checkParse(t, s, tree{l, api.OK, 0})
	}
	if turned < 5000 {
		t.Errorf("only %d texts were turned", turned)
	}
}

// Promises 17.3 and 17.8: scattered texts, most of them wrong in a place or two.
func TestParseScattered(t *testing.T) {
	state := uint64(173)
	words := append(strings.Fields("zero pay fixed give both scale window repeat act360 act365 actact bond euro 1 2 8 9 12 1200 1201 4096 4097 0 -1 0.5 1e400 0x1p+0 0x1 1900-01-01 2025-02-28 2025-02-29 2199-12-31 x Zero"), "\t", "zero\tzero", "\xff")
	seen := map[api.Errno]int{}
	for range 30000 {
		l := strings.Fields(spelled(someTree(&state, 1+below(&state, 6), below(&state, 4))))
		for range below(&state, 3) {
			place := below(&state, len(l)+1)
			other := words[below(&state, len(words))]
			switch {
			case below(&state, 3) == 0:
				l = slices.Insert(l, place, other)
			case place == len(l):
			case below(&state, 2) == 0:
				l = slices.Delete(l, place, place+1)
			default:
				l[place] = other
			}
		}
		s := strings.Repeat(" ", below(&state, 2)) + strings.Join(l, " ")
		seen[checkText(t, s).e]++
		if s != "" {
			seen[checkText(t, s[:below(&state, len(s))]).e]++
		}
	}
	for range 20000 {
		var l []string
		for range below(&state, 9) {
			l = append(l, words[below(&state, len(words))])
		}
		checkText(t, strings.Join(l, " "))
	}
	if seen[api.OK] < 10000 || seen[api.ErrWord] < 10000 {
		t.Errorf("only %v", seen)
	}
}

// Promise 17.8: whatever bytes there are.
func TestParseBytes(t *testing.T) {
	state := uint64(178)
	for range 3000 {
		s := make([]byte, below(&state, 200))
		for i := range s {
			s[i] = byte(scatter(&state))
			if below(&state, 3) == 0 {
				s[i] = ' '
			}
		}
		checkText(t, string(s))
		checkText(t, "both zero "+string(s))
	}
}
