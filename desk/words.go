package desk

import (
	"strings"
)

// wordsOf is the words of a line.
func wordsOf(line string) []string {
	var l []string
	begin, within := 0, false
	for i, r := range line {
		switch {
		case within && isGap(r):
			l, within = append(l, line[begin:i]), false
		case !within && !isGap(r):
			begin, within = i, true
		}
	}
	if within {
		l = append(l, line[begin:])
	}
	return l
}

// hasWord tells whether the line has one.
func hasWord(line string) bool {
	return strings.ContainsFunc(line, func(r rune) bool { return !isGap(r) })
}

// isGap tells whether the rune parts words. Others that look blank do not.
func isGap(r rune) bool {
	return r == ' ' || r == '\t'
}
