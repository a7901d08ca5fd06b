// Package texts reads and writes names and numbers in texts, as DOC.md's terms and its rule R9 tell them for all chapters.
package texts

import "criadera/api"

func isLetter(c byte) bool { return 'a' <= c && c <= 'z' || 'A' <= c && c <= 'Z' }

func isDigit(c byte) bool { return '0' <= c && c <= '9' }

// IsName tells whether a text is a name.
func IsName(s string) bool {
	if len(s) < 1 || len(s) > api.MaxName || !isLetter(s[0]) {
		return false
	}
	for i := 1; i < len(s); i++ {
		if !isLetter(s[i]) && !isDigit(s[i]) && s[i] != '-' {
			return false
		}
	}
	return true
}

// Number reads a number from 0 on of so many digits at most (18 at most, so that an int holds it).
func Number(s string, digits int) (int, bool) {
	if len(s) < 1 || len(s) > digits || len(s) > 1 && s[0] == '0' {
		return 0, false
	}
	n := 0
	for i := 0; i < len(s); i++ {
		if !isDigit(s[i]) {
			return 0, false
		}
		n = 10*n + int(s[i]-'0')
	}
	return n, true
}

// Signed is Number for numbers that may be below 0.
func Signed(s string, digits int) (int, bool) {
	if s == "" || s[0] != '-' {
		return Number(s, digits)
	}
	n, ok := Number(s[1:], digits)
	return -n, ok && n != 0
}
