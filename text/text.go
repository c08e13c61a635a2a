// Package text contains what the layers ask of texts: which of them are names, words and numbers.
package text

import (
	"cipherplan/api"
	"strconv"
)

// IsName reports whether a text is a name.
func IsName(s string) bool {
	if len(s) < 1 || len(s) > api.MaxName {
		return false
	}
	for i := range len(s) {
		if s[i] < 33 || s[i] > 126 {
			return false
		}
	}
	return true
}

// IsWord reports whether a text is a word.
func IsWord(s string) bool {
	if len(s) < 1 || len(s) > api.MaxName {
		return false
	}
	for i := range len(s) {
		if !InWord(s[i]) {
			return false
		}
	}
	return true
}

// InWord reports whether words have a byte.
func InWord(b byte) bool {
	switch {
	case b >= 'a' && b <= 'z', b >= 'A' && b <= 'Z', b >= '0' && b <= '9':
		return true
	}
	return b == '-' || b == '_' || b == '.'
}

// Number returns the number that a text of at most so many digits, fewer than 19, is in decimal, without leading zeros.
func Number(s string, digits int) (int, bool) {
	if len(s) > digits || s == "" || s[0] < '0' || s[0] > '9' {
		return 0, false
	}
	n, err := strconv.Atoi(s)
	if err != nil || strconv.Itoa(n) != s {
		return 0, false
	}
	return n, true
}
