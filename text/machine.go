package text

// The machines here go through a text byte by byte: a label is a state, named after what is read in it, and i is the place that the machine has come to.

const (
	maxHexDigits   = fractionBits / digitBits // more have no text of Hex, and would not go into an int
	maxPowerDigits = 4
)

// isDecimal tells whether s is of the form that Parse reads.
func isDecimal(s string) bool {
	i, digits := 0, 0
	if at(s, 0) == '-' {
		i = 1
	}
	if !isDigit(at(s, i)) {
		goto refused
	}
whole:
	i++
	switch c := at(s, i); {
	case isDigit(c):
		goto whole
	case c == '.':
		goto point
	case c == 'e':
		goto power
	}
	goto end
point:
	i++
	if !isDigit(at(s, i)) {
		goto refused
	}
part:
	i++
	switch c := at(s, i); {
	case isDigit(c):
		goto part
	case c == 'e':
		goto power
	}
	goto end
power:
	i++
	if c := at(s, i); c == '+' || c == '-' {
		i++
	}
	if !isDigit(at(s, i)) {
		goto refused
	}
powerDigit:
	i++
	digits++
	if isDigit(at(s, i)) && digits < maxPowerDigits {
		goto powerDigit
	}
end:
	return i == len(s)
refused:
	return false
}

// isWhole tells whether s is of the form that Int reads.
func isWhole(s string) bool {
	i := 0
	switch at(s, 0) {
	case '0':
		i = 1
		goto end
	case '-':
		i = 1
	}
	if c := at(s, i); c == '0' || !isDigit(c) {
		goto refused
	}
digit:
	i++
	if isDigit(at(s, i)) {
		goto digit
	}
end:
	return i == len(s)
refused:
	return false
}

// readHex reads m * 2^e out of 0x, 0 or 1, perhaps a point and digits, p, a sign and a power. It asks only for what keeps m and e within their bounds: Unhex asks whether s is the number's own text.
func readHex(s string) (m, e int, ok bool) {
	i, digits, powerDigits, sign := 2, 0, 0, 1
	if at(s, 0) != '0' || at(s, 1) != 'x' {
		goto refused
	}
	switch at(s, i) {
	case '0':
	case '1':
		m = 1
	default:
		goto refused
	}
	i++
	if at(s, i) != '.' {
		goto power
	}
digit:
	i++
	if d, hex := hexDigit(at(s, i)); hex && digits < maxHexDigits {
		m = m<<digitBits | d
		digits++
		goto digit
	}
power:
	if at(s, i) != 'p' {
		goto refused
	}
	i++
	switch at(s, i) {
	case '+':
	case '-':
		sign = -1
	default:
		goto refused
	}
powerDigit:
	i++
	if c := at(s, i); isDigit(c) && powerDigits < maxPowerDigits {
		e = 10*e + int(c-'0')
		powerDigits++
		goto powerDigit
	}
	if i == len(s) {
		return m, sign*e - digits*digitBits, true
	}
refused:
	return 0, 0, false
}

// at is byte i of s, and behind its end 0, which no form has.
func at(s string, i int) byte {
	if i >= len(s) {
		return 0
	}
	return s[i]
}

func isDigit(c byte) bool {
	return c >= '0' && c <= '9'
}

func hexDigit(c byte) (int, bool) {
	switch {
	case isDigit(c):
		return int(c - '0'), true
	case c >= 'a' && c <= 'f':
		return int(c-'a') + 10, true
	}
	return 0, false
}
