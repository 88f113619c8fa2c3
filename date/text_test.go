package date_test

import (
	"regexp"
	"strings"
	"testing"
	"time"

	"tenor/api"
	"tenor/date"
)

var form = regexp.MustCompile(`^[0-9]{4}-[0-9]{2}-[0-9]{2}$`)

// libraryParse is what Parse has to answer, by the library's reading of a text.
func libraryParse(s string) answer {
	when, err := time.Parse("2006-01-02", s)
	if !form.MatchString(s) || err != nil || when.Year() < 1900 || when.Year() > 2199 {
		return noDate
	}
	return good(libraryDay(when.Year(), int(when.Month()), when.Day()))
}

// Promises 5.5 and 5.6.
func TestPrintAndParse(t *testing.T) {
	for n := range api.LastDay + 1 {
		s, e := date.Print(n)
		if want := noon(1900, 1, 1+n).Format("2006-01-02"); s != want || e != api.OK {
			t.Fatalf("Print(%d) is %q, %v, not %q", n, s, e, want)
		}
		if got := told(date.Parse(s)); got != good(n) {
			t.Fatalf("Parse(%q) is %v, not %d", s, got, n)
		}
	}
	for _, n := range append([]int{api.LastDay + 1}, farOff...) {
		if s, e := date.Print(n); s != "" || e != api.ErrRange {
			t.Errorf("Print(%d) is %q, %v", n, s, e)
		}
	}
}

// Promise 5.5: what has not the form, and what has it and is no date.
func TestParseRefuses(t *testing.T) {
	for _, s := range []string{
		"", "2", "-", "2025", "2025-01", "2025-1-1", "2025-01-1", "2025-1-01", "025-01-01", "20250101", "2025-01-011", "12025-01-01", "2025-001-01",
		"2025-01-01 ", " 2025-01-01", "2025-01-01\n", "2025-01-01\x00", "2025-01-01Z", "2025-01-01T00",
		"2025/01/01", "2025.01.01", "2025:01:01", "2025 01 01", "2025--1-01", "2025-01--1", "-025-01-01", "+025-01-01", "2025-+1-01", "2025-01-+1",
		"2025- 1-01", "2025-01- 1", "202a-01-01", "2025-0a-01", "2025-01-0a", "0x25-01-01", "2_25-01-01", "01-01-2025", "20-2501-01", "2025-0101-",
		"----------", "..........", "\x00\x00\x00\x00-\x00\x00-\x00\x00", "2025\u201301-1", "2025\u201301\u201301", "2025\xad01\xad01",
		"\u0662\u0660-01-01", "\u0662\u0660\u0662\u0665-\u0660\u0661-\u0660\u0661", "\uff12025-01-", "2025-01-\u0661", "\xff025-01-01", "2025-01-0\xff",
		"2025-00-01", "2025-13-01", "2025-99-01", "2025-01-00", "2025-01-32", "2025-04-31", "2025-02-29", "2025-02-30", "2100-02-29", "1900-02-29", "2000-02-30",
		"1899-12-31", "2200-01-01", "0000-00-00", "0000-01-01", "0001-01-01", "9999-12-31", "9999-99-99",
		strings.Repeat("2025-01-01", 2), strings.Repeat("0", 1<<20), strings.Repeat("-", 1<<20),
	} {
		if got := told(date.Parse(s)); got != noDate {
			t.Errorf("Parse(%.40q) is %v", s, got)
		}
	}
}

// Promise 5.5: each text that is a byte away from one that is good.
func TestParseByTheByte(t *testing.T) {
	for _, s := range []string{"2025-01-01", "2000-02-29", "1900-01-01", "2199-12-31", "2104-10-30"} {
		for i := range len(s) {
			for c := range 256 {
				texts := []string{s[:i] + string([]byte{byte(c)}) + s[i+1:], s[:i] + string([]byte{byte(c)}) + s[i:]}
				if c == 0 {
					texts = append(texts, s[:i]+s[i+1:])
				}
				for _, other := range texts {
					if got, want := told(date.Parse(other)), libraryParse(other); got != want {
						t.Errorf("Parse(%q) is %v, not %v", other, got, want)
					}
				}
			}
		}
	}
}

// Promise 5.5: all months and numbers of two digits, in leap years and in others.
func TestParseNumbers(t *testing.T) {
	two := func(x int) string { return string([]byte{byte('0' + x/10), byte('0' + x%10)}) }
	for _, y := range []string{"0000", "1899", "1900", "1999", "2000", "2100", "2199", "2200", "9999"} {
		for m := range 100 {
			for d := range 100 {
				s := y + "-" + two(m) + "-" + two(d)
				if got, want := told(date.Parse(s)), libraryParse(s); got != want {
					t.Errorf("Parse(%q) is %v, not %v", s, got, want)
				}
			}
		}
	}
}

// Promise 5.9: texts of any bytes.
func TestParseEnds(t *testing.T) {
	state := uint64(55)
	const signs = "0123456789-"
	for i := range 100000 {
		text := make([]byte, scatter(&state)%13)
		for j := range text {
			text[j] = byte(scatter(&state))
			if i%2 == 0 {
				text[j] = signs[scatter(&state)%uint64(len(signs))]
			}
		}
		if got, want := told(date.Parse(string(text))), libraryParse(string(text)); got != want {
			t.Fatalf("Parse(%q) is %v, not %v", text, got, want)
		}
	}
}
