package text_test

import (
	"math"
	"math/big"
	"regexp"
	"slices"
	"strconv"
	"strings"
	"testing"

	"tenor/api"
	"tenor/ieee"
	"tenor/text"
)

const (
	least    = 0x1p-1074
	greatest = math.MaxFloat64
)

var (
	inf    = math.Inf(1)
	nought = math.Copysign(0, -1)

	decimalForm = regexp.MustCompile(`^-?[0-9]+(\.[0-9]+)?(e[+-]?[0-9]{1,4})?$`)
	hexForm     = regexp.MustCompile(`^-?0x(0p\+0|1(\.[0-9a-f]{0,12}[1-9a-f])?p(\+0|[+-][1-9][0-9]{0,3}))$`)
	wholeForm   = regexp.MustCompile(`^(0|-?[1-9][0-9]*)$`)
)

// scatter is splitmix64: the same numbers in every run.
func scatter(state *uint64) uint64 {
	*state += 0x9e3779b97f4a7c15
	z := *state
	z = (z ^ z>>30) * 0xbf58476d1ce4e5b9
	z = (z ^ z>>27) * 0x94d049bb133111eb
	return z ^ z>>31
}

// numbers is edges and n numbers of all exponents, every second one of everyday size or with few bits.
func numbers(n int) []float64 {
	l := []float64{0, nought, least, -least, 3 * least, 0x1p-1022 - least, 0x1p-1022, 0.1, 0.5, 1, -1, 1.5, 2.5, 1e15, 1e22, 1e23,
		0x1p52, 0x1p53, 0x1p53 - 1, greatest, -greatest, 0x1p1023}
	state := uint64(2)
	for len(l) < n {
		u := scatter(&state)
		x := math.Float64frombits(u)
		switch len(l) % 4 {
		case 1:
			x = math.Ldexp(float64(int64(u)>>20), int(u%64)-52)
		case 3:
			x = math.Ldexp(float64(int64(u)>>50), -int(u%40))
		}
		if !math.IsNaN(x) && !math.IsInf(x, 0) {
			l = append(l, x)
		}
	}
	return l
}

// nearest is near of the decimal s by exact arithmetic, and whether that is a number.
func nearest(t *testing.T, s string) (float64, bool) {
	t.Helper()
	r, ok := new(big.Rat).SetString(s)
	if !ok {
		t.Fatalf("%s: no decimal", s)
	}
	x, _ := r.Float64()
	if x == 0 && s[0] == '-' {
		x = nought
	}
	return x, !math.IsInf(x, 0)
}

// rounded is x with so many places by exact arithmetic.
func rounded(x float64, places int) string {
	r := new(big.Rat).SetFloat64(math.Abs(x))
	scale := new(big.Int).Exp(big.NewInt(10), big.NewInt(int64(places)), nil)
	r.Mul(r, new(big.Rat).SetInt(scale))
	n, rest := new(big.Int).QuoRem(r.Num(), r.Denom(), new(big.Int))
	switch c := rest.Lsh(rest, 1).Cmp(r.Denom()); {
	case c > 0, c == 0 && n.Bit(0) == 1:
		n.Add(n, big.NewInt(1))
	}
	s := n.String()
	s = strings.Repeat("0", max(0, places+1-len(s))) + s
	if places > 0 {
		s = s[:len(s)-places] + "." + s[len(s)-places:]
	}
	if math.Signbit(x) {
		s = "-" + s
	}
	return s
}

func checkParse(t *testing.T, s string, want float64, e api.Errno) {
	t.Helper()
	if x, err := text.Parse(s); !ieee.Same(x, want) || err != e {
		t.Errorf("Parse(%q) is %x, %v, not %x, %v", s, x, err, want, e)
	}
}

// Promise 2.1.
func TestParse(t *testing.T) {
	for s, want := range map[string]float64{
		"0": 0, "-0": nought, "0.0": 0, "-0.000e9": nought, "0e9999": 0, "-0e-9999": nought, "1": 1, "-1": -1, "0.1": 0x1.999999999999ap-4,
		"007e+0001": 70, "7e0": 7, "12.5e-1": 1.25, "1e-400": 0, "-1e-400": nought, "1e-9999": 0, "-1.5e-9999": nought,
		"9007199254740993": 9007199254740992, "9007199254740993.0000001": 9007199254740994, "9007199254740995": 9007199254740996,
		"4.9e-324": least, "2.4e-324": 0, "-2.4e-324": nought, "2.5e-324": least,
		"1.7976931348623157e308": greatest, "1.7976931348623158e308": greatest, "-17976931348623158e+292": -greatest,
		"0.00000000000000000001e+328":  1e308,
		strings.Repeat("0", 399) + "1": 1, "0." + strings.Repeat("0", 397) + "1": 0, strings.Repeat("9", 308): 1e308,
		"0." + strings.Repeat("0", 393) + "1e394": 1,
	} {
		checkParse(t, s, want, api.OK)
	}
}

// Promise 2.1: what is none of the form, what is too long, what is too great.
func TestParseRefuses(t *testing.T) {
	for _, s := range []string{"", "-", "+", ".", "e", "1.", ".5", "-.5", "+1", "--1", "1-", " 1", "1 ", "1\n", "1\x00", "\x00", "1e", "1e+", "1e-", "1.e5", "1e5.", "1e1.5",
		"1e00001", "1e-00001", "1e10000", "1ee1", "1e+-1", "1E5", "1.2.3", "1,5", "1_0", "0x1p0", "0x10", "inf", "-inf", "Inf", "nan", "NaN", "infinity", "1e1e1", "１", "1f", "-0x1p+0",
		strings.Repeat("0", 401), "0." + strings.Repeat("0", 399), strings.Repeat("1", 70000)} {
		checkParse(t, s, 0, api.ErrNumber)
	}
	for _, s := range []string{"1e400", "-1e400", "1e309", "1e9999", "-1e9999", "1.8e308", "1.7976931348623159e308", strings.Repeat("9", 309), strings.Repeat("9", 400)} {
		checkParse(t, s, 0, api.ErrNumber)
	}
}

// Promise 2.1: the last number that is none, the first real that is an infinity.
func TestParseEnds(t *testing.T) {
	end := new(big.Int).Sub(new(big.Int).Lsh(big.NewInt(1), 1024), new(big.Int).Lsh(big.NewInt(1), 970))
	checkParse(t, end.String(), 0, api.ErrNumber)
	checkParse(t, "-"+end.String()+".0", 0, api.ErrNumber)
	end.Sub(end, big.NewInt(1))
	checkParse(t, end.String(), greatest, api.OK)
	checkParse(t, "-"+end.String()+".99999999", -greatest, api.OK)
}

// between is the decimal half-way between x and the next number up, cut to so many digits, as a whole number times a power of 10.
func between(x float64, digits int) (*big.Int, int) {
	r := new(big.Rat).Add(new(big.Rat).SetFloat64(x), new(big.Rat).SetFloat64(math.Nextafter(x, inf)))
	r.Quo(r, big.NewRat(2, 1))
	e := int(math.Floor(math.Log10(x))) - digits + 1
	power := new(big.Rat).SetInt(new(big.Int).Exp(big.NewInt(10), big.NewInt(int64(max(e, -e))), nil))
	if e > 0 {
		r.Quo(r, power)
	} else {
		r.Mul(r, power)
	}
	return new(big.Int).Quo(r.Num(), r.Denom()), e
}

// Promises 2.1 and 2.6: near of the value, and never falling, at the half-way points between numbers, where the rounding turns.
func TestParseHalfWays(t *testing.T) {
	for _, x := range numbers(4000) {
		x = math.Abs(x)
		if x == 0 || x == greatest {
			continue
		}
		for _, digits := range []int{17, 25, 390} {
			n, e := between(x, digits)
			last := 0.0
			for range 3 {
				s := n.String() + "e" + strconv.Itoa(e)
				want, _ := nearest(t, s)
				checkParse(t, s, want, api.OK)
				checkParse(t, "-"+s, -want, api.OK)
				if got, _ := text.Parse(s); got < last {
					t.Errorf("%s: Parse falls", s)
				} else {
					last = got
				}
				n.Add(n, big.NewInt(1))
			}
		}
	}
}

// Promise 2.1: half-way points told exactly, where the even number is the one.
func TestParseTies(t *testing.T) {
	state := uint64(3)
	for range 4000 {
		u := scatter(&state)
		m := u>>11 | 1<<52
		twice := new(big.Int).SetUint64(2*m + 1)
		want := float64(m + m&1)
		shift := int(u % 64)
		s := new(big.Int).Lsh(twice, uint(shift)).String()
		checkParse(t, s, math.Ldexp(want, shift+1), api.OK)
		// 5^k * 10^-k is 2^-k.
		five := new(big.Int).Exp(big.NewInt(5), big.NewInt(int64(shift)), nil)
		s = twice.Mul(twice, five).String() + "e-" + strconv.Itoa(shift)
		checkParse(t, s, math.Ldexp(want, 1-shift), api.OK)
	}
}

// Promise 2.6.
func TestParseDoesNotFall(t *testing.T) {
	var all []*big.Rat
	told := map[*big.Rat]string{}
	state := uint64(4)
	for range 3000 {
		u := scatter(&state)
		s := strconv.FormatUint(u>>(u%50), 10) + "." + strconv.FormatUint(scatter(&state), 10) + "e" + strconv.Itoa(int(scatter(&state)%700)-350)
		for _, s := range []string{s, "-" + s} {
			r, _ := new(big.Rat).SetString(s)
			all = append(all, r)
			told[r] = s
		}
	}
	slices.SortFunc(all, (*big.Rat).Cmp)
	last := -inf
	for _, r := range all {
		x, e := text.Parse(told[r])
		want, ok := nearest(t, told[r])
		if !ok {
			checkParse(t, told[r], 0, api.ErrNumber)
			continue
		}
		if e != api.OK || x < last || !ieee.Same(x, want) {
			t.Errorf("Parse(%s) is %x, %v, behind %x", told[r], x, e, last)
		}
		last = x
	}
}

// Promise 2.2.
func TestPrint(t *testing.T) {
	for _, c := range []struct {
		x      float64
		places int
		want   string
	}{
		{0.125, 2, "0.12"}, {0.375, 2, "0.38"}, {-0.001, 2, "-0.00"}, {1e20, 0, "100000000000000000000"},
		{0, 0, "0"}, {nought, 0, "-0"}, {0, 3, "0.000"}, {nought, 1, "-0.0"},
		{0.5, 0, "0"}, {1.5, 0, "2"}, {2.5, 0, "2"}, {3.5, 0, "4"}, {-0.5, 0, "-0"}, {-2.5, 0, "-2"}, {0x1.0000000000001p-1, 0, "1"}, {0x1.fffffffffffffp-2, 0, "0"},
		{9.5, 0, "10"}, {99.96, 1, "100.0"}, {-9.99, 1, "-10.0"}, {0.1, 30, "0.100000000000000005551115123126"}, {0.1, 20, "0.10000000000000000555"},
		{least, 30, "0.000000000000000000000000000000"}, {-least, 0, "-0"}, {7, 1, "7.0"}, {-12.25, 1, "-12.2"}, {-12.75, 1, "-12.8"},
		{0x1p-31, 30, "0.000000000465661287307739257812"}, {0x3p-31, 30, "0.000000001396983861923217773438"},
	} {
		if s, e := text.Print(c.x, c.places); s != c.want || e != api.OK {
			t.Errorf("Print(%x, %d) is %q, %v, not %s", c.x, c.places, s, e, c.want)
		}
	}
	if s, e := text.Print(-greatest, 30); e != api.OK || s != rounded(-greatest, 30) || len(s) != 1+309+1+30 {
		t.Errorf("Print of the greatest number: %q, %v", s, e)
	}
}

// Promise 2.2: by exact arithmetic, with ties among them.
func TestPrintRounds(t *testing.T) {
	for i, x := range numbers(8000) {
		places := []int{i % 31, 0, 2, 30}
		for _, p := range places {
			if s, e := text.Print(x, p); s != rounded(x, p) || e != api.OK {
				t.Errorf("Print(%x, %d) is %q, %v, not %s", x, p, s, e, rounded(x, p))
			}
		}
	}
	for p := range 31 {
		for m := range 200 {
			x := math.Ldexp(float64(2*m+1), -p-1) // its decimal has p + 1 places, the last one 5
			if s, e := text.Print(x, p); s != rounded(x, p) || e != api.OK {
				t.Errorf("Print(%x, %d) is %q, %v, not %s", x, p, s, e, rounded(x, p))
			}
		}
	}
}

// Promise 2.2.
func TestPrintRefuses(t *testing.T) {
	for _, c := range []struct {
		x      float64
		places int
	}{{1, 31}, {1, -1}, {0, math.MaxInt}, {0, math.MinInt}, {math.NaN(), 1}, {inf, 1}, {-inf, 0}, {math.NaN(), -1}, {inf, 31}} {
		if s, e := text.Print(c.x, c.places); s != "" || e != api.ErrNumber {
			t.Errorf("Print(%x, %d) is %q, %v", c.x, c.places, s, e)
		}
	}
}

// Promise 2.3.
func TestHex(t *testing.T) {
	for s, x := range map[string]float64{
		"0x1.8p+0": 1.5, "0x0p+0": 0, "-0x0p+0": nought, "0x1.999999999999ap-4": 0.1, "-0x1.999999999999ap-4": -0.1, "0x1p+0": 1, "-0x1p+0": -1, "0x1p-1": 0.5,
		"0x1.0000000000001p+0": math.Nextafter(1, 2), "0x1.08p+4": 16.5, "0x1p+10": 1024, "0x1p-10": 0x1p-10,
		"0x1p-1074": least, "-0x1p-1074": -least, "0x1.8p-1073": 3 * least, "0x1p-1073": 2 * least, "0x1.ffffffffffffep-1023": 0x1p-1022 - least, "0x1p-1022": 0x1p-1022,
		"0x1.fffffffffffffp+1023": greatest, "-0x1.fffffffffffffp+1023": -greatest,
	} {
		if h, e := text.Hex(x); h != s || e != api.OK {
			t.Errorf("Hex(%x) is %q, %v, not %s", x, h, e, s)
		}
		if y, e := text.Unhex(s); !ieee.Same(x, y) || e != api.OK {
			t.Errorf("Unhex(%s) is %x, %v", s, y, e)
		}
	}
	for _, x := range []float64{math.NaN(), inf, -inf} {
		if h, e := text.Hex(x); h != "" || e != api.ErrNumber {
			t.Errorf("Hex(%x) is %q, %v", x, h, e)
		}
	}
}

// Promises 2.3 and 2.5.
func TestHexThereAndBack(t *testing.T) {
	short := regexp.MustCompile(`p([+-])0([0-9])$`) // strconv gives a power two digits
	for _, x := range numbers(20000) {
		h, e := text.Hex(x)
		want := short.ReplaceAllString(strconv.FormatFloat(x, 'x', -1, 64), "p$1$2")
		if h != want || e != api.OK || !hexForm.MatchString(h) {
			t.Errorf("Hex(%x) is %q, %v", x, h, e)
		}
		if y, e := text.Unhex(h); !ieee.Same(x, y) || e != api.OK {
			t.Errorf("Unhex(%s) is %x, %v", h, y, e)
		}
	}
}

// Promise 2.3: texts that are no number's own.
func TestUnhexRefuses(t *testing.T) {
	for _, s := range []string{"", "-", "0", "1", "0x", "0x1", "-0x1", "0x1.", "0x1.8", "0x1p", "0x1p+", "0x1p-", "0x1.p+0", "0x1.80p+0", "0x1.8000000000000p+0", "0x1.80000000000001p+0", "0x1.00000000000001p+0",
		"0x2p+0", "0x0.8p+0", "0x0p+1", "0x0p-0", "0x0p+00", "0x0.0p+0", "0x1p-0", "0x1p+00", "0x1p+01", "0x1p-01", "0x1p0", "0x1P+0", "0X1p+0", "0x1.Ap+0", "0x1.gp+0",
		"0x1p+1024", "0x1p+9999", "0x1p+10000", "0x1p-1075", "0x1p-9999", "0x1p+99999999999999999999", "0x1.8p-1074", "0x1.8p-1075", "0x1.0000000000001p-1023", "0x1.fffffffffffffp-1023", "0x1.fffffffffffff8p+1023", "0x1.fffffffffffff8p-1",
		"+0x1p+0", "--0x1p+0", " 0x1p+0", "0x1p+0 ", "0x1p+0\x00", "0x1p+0x", "0x1p+-1", "0x10p+0", "1x1p+0", "0y1p+0", "inf", "-inf", "nan", "0x1.8.8p+0", "0x1.8p+1p+1", "0x1_8p+0"} {
		if x, e := text.Unhex(s); !ieee.Same(x, 0) || e != api.ErrNumber {
			t.Errorf("Unhex(%q) is %x, %v", s, x, e)
		}
	}
}

// Promise 2.4.
func TestInt(t *testing.T) {
	for s, want := range map[string]int{"0": 0, "1": 1, "9": 9, "-7": -7, "-10": -10, "1000000": 1000000, "9223372036854775807": math.MaxInt, "-9223372036854775808": math.MinInt} {
		if n, ok := text.Int(s); n != want || !ok {
			t.Errorf("Int(%q) is %d, %v", s, n, ok)
		}
	}
	for _, s := range []string{"", "-", "+", "007", "00", "-0", "-00", "-01", "+1", "--1", " 1", "1 ", "1\x00", "\x00", "0\x00", "1-", "1.0", "1e3", "1_0", "0x1", "a", "１", "9223372036854775808", "-9223372036854775809", "18446744073709551617", "99999999999999999999", strings.Repeat("1", 70000)} {
		if n, ok := text.Int(s); n != 0 || ok {
			t.Errorf("Int(%q) is %d, %v", s, n, ok)
		}
	}
}

// Promise 2.6: Print of a number with enough places is read back.
func TestPrintIsReadBack(t *testing.T) {
	told := 0
	for _, x := range numbers(20000) {
		r := new(big.Rat).SetFloat64(x)
		p := r.Denom().BitLen() - 1 // 2^-p has p places
		if p > api.MaxPlaces {
			continue
		}
		told++
		s, e := text.Print(x, p)
		y, f := text.Parse(s)
		if e != api.OK || f != api.OK || !ieee.Same(x, y) {
			t.Errorf("Parse(Print(%x, %d)), of %q, is %x, %v, %v", x, p, s, y, e, f)
		}
	}
	if told < 5000 {
		t.Errorf("only %d numbers were asked", told)
	}
}

// pieces are what the forms are made of, and a few that stand in none.
func pieces() []string {
	return []string{"-", "+", ".", "e", "p", "0x", "0x1", "0x0", "0", "1", "7", "9", "a", "f", "00", "e-", "p+", "1074", "308", "9223372036854775807", " ", "\x00", "é", "E", "_"}
}

// someText puts pieces together.
func someText(state *uint64) string {
	l := pieces()
	var b strings.Builder
	for range 1 + scatter(state)%6 {
		b.WriteString(l[scatter(state)%uint64(len(l))])
	}
	return b.String()
}

// turned is s with a piece in the place of none, one or two of its bytes.
func turned(s string, state *uint64) string {
	l := append(pieces(), "")
	from := int(scatter(state) % uint64(len(s)+1))
	to := min(len(s), from+int(scatter(state)%3))
	return s[:from] + l[scatter(state)%uint64(len(l))] + s[to:]
}

// Promise 2.7, and of 2.1 and 2.4 which texts are of the form.
func TestAnyText(t *testing.T) {
	state := uint64(5)
	parsed, whole := 0, 0
	for range 200000 {
		s := someText(&state)
		if !decimalForm.MatchString(s) {
			checkParse(t, s, 0, api.ErrNumber)
		} else if want, ok := nearest(t, s); ok {
			checkParse(t, s, want, api.OK)
			parsed++
		} else {
			checkParse(t, s, 0, api.ErrNumber)
		}
		checkUnhex(t, s)
		n, ok := text.Int(s)
		m, err := strconv.Atoi(s)
		if fits := err == nil && wholeForm.MatchString(s); ok != fits || ok && n != m || !ok && n != 0 {
			t.Errorf("Int(%q) is %d, %v", s, n, ok)
		} else if ok {
			whole++
		}
	}
	if parsed < 5000 || whole < 5000 {
		t.Errorf("too few texts of the form: %d, %d", parsed, whole)
	}
}

// checkUnhex holds Unhex(s) against what strconv reads, and tells whether s is a number's text. That Hex gives each number its one text is tested above.
func checkUnhex(t *testing.T, s string) bool {
	t.Helper()
	x, e := text.Unhex(s)
	want, err := strconv.ParseFloat(s, 64)
	h, _ := text.Hex(want)
	own := err == nil && h == s && hexForm.MatchString(s)
	if !own && (e != api.ErrNumber || !ieee.Same(x, 0)) || own && (e != api.OK || !ieee.Same(x, want)) {
		t.Errorf("Unhex(%q) is %x, %v", s, x, e)
	}
	return own
}

// Promises 2.3, 2.5 and 2.7: texts next to a number's own are another's own, or refused.
func TestUnhexTurned(t *testing.T) {
	state := uint64(6)
	own := 0
	for range 10 {
		for _, x := range numbers(10000) {
			h, _ := text.Hex(x)
			if checkUnhex(t, turned(h, &state)) {
				own++
			}
		}
	}
	if own < 5000 || own > 90000 {
		t.Errorf("%d texts are a number's own", own)
	}
}
