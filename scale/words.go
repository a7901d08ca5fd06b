package scale

import "criadera/api"

// The most digits of numbers: of acts and of systems, and of states.
const (
	digitsOfActs   = 9
	digitsOfStates = 18
)

func isLetter(c byte) bool { return 'a' <= c && c <= 'z' || 'A' <= c && c <= 'Z' }

func isDigit(c byte) bool { return '0' <= c && c <= '9' }

func isName(s string) bool {
	if !within(len(s), 1, api.MaxName) || !isLetter(s[0]) {
		return false
	}
	for i := 1; i < len(s); i++ {
		if !isLetter(s[i]) && !isDigit(s[i]) && s[i] != '-' {
			return false
		}
	}
	return true
}

// readNumber reads a number from 0 on of so many digits at most (18 at most, so that an int holds it).
func readNumber(s string, digits int) (int, bool) {
	if !within(len(s), 1, digits) || len(s) > 1 && s[0] == '0' {
		return 0, false
	}
	n := 0
	for i := 0; i < len(s); i++ {
		if !isDigit(s[i]) {
			return 0, false
		}
		n = 10*n + int(s[i]-'0')
	}
	return n, true
}

// readSigned is readNumber for numbers that may be below 0.
func readSigned(s string, digits int) (int, bool) {
	if s == "" || s[0] != '-' {
		return readNumber(s, digits)
	}
	n, ok := readNumber(s[1:], digits)
	return -n, ok && n != 0
}
