package date

import (
	"strconv"

	"tenor/api"
)

// textLength is how many bytes a day's text has; yearEnd and monthEnd are the places of its two strokes.
const (
	textLength = 10
	yearEnd    = 4
	monthEnd   = 7
)

// Parse is the day whose text s is.
func Parse(s string) (int, api.Errno) {
	if !isText(s) {
		return 0, api.ErrDate
	}
	return Of(number(s[:yearEnd]), number(s[yearEnd+1:monthEnd]), number(s[monthEnd+1:]))
}

// Print is the text of the day n.
func Print(n int) (string, api.Errno) {
	y, m, d, e := Civil(n)
	if e != api.OK {
		return "", e
	}
	return strconv.Itoa(y) + "-" + twoDigits(m) + "-" + twoDigits(d), api.OK
}

// isText tells whether s has the form of a date. The range goes byte by byte here: the first sign of several bytes, or of none, is neither a digit nor a stroke and ends it.
func isText(s string) bool {
	if len(s) != textLength {
		return false
	}
	for i, c := range s {
		if i == yearEnd || i == monthEnd {
			if c != '-' {
				return false
			}
		} else if c < '0' || c > '9' {
			return false
		}
	}
	return true
}

// number is what a few digits tell.
func number(digits string) int {
	n := 0
	for _, c := range digits {
		n = 10*n + int(c-'0')
	}
	return n
}

// twoDigits is a number below 100, with a nought ahead where it has one digit.
func twoDigits(x int) string {
	return strconv.Itoa(100 + x)[1:]
}
