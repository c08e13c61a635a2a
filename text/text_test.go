package text_test

import (
	"cipherplan/text"
	"strings"
	"testing"
)

func TestNames(t *testing.T) {
	for s, want := range map[string]bool{"": false, "a": true, "!~": true, "a b": false, " ": false, "a\x7f": false, "\x80": false, "a\n": false, strings.Repeat("x", 32): true, strings.Repeat("x", 33): false} {
		if text.IsName(s) != want {
			t.Errorf("%q", s)
		}
	}
}

func TestWords(t *testing.T) {
	for s, want := range map[string]bool{"": false, "a": true, "-_.": true, "azAZ09": true, "a b": false, "a+": false, "é": false, "a/": false, "a@": false, "[": false, "`": false, "{": false, ":": false, strings.Repeat("x", 32): true, strings.Repeat("x", 33): false} {
		if text.IsWord(s) != want {
			t.Errorf("%q", s)
		}
	}
}

func TestNumbers(t *testing.T) {
	for s, want := range map[string]int{"0": 0, "7": 7, "10": 10, "999999999999999": 999999999999999, "": -1, "-0": -1, "-1": -1, "+1": -1, "01": -1, "00": -1, "1_0": -1, "1 ": -1, "0x1": -1, "a": -1, "1000000000000000": -1} {
		n, ok := text.Number(s, 15)
		if ok != (want >= 0) || ok && n != want || !ok && n != 0 {
			t.Errorf("%q: %d, %v", s, n, ok)
		}
	}
}
