package suitespec

import (
	"cipherplan/api"
	"cipherplan/catalog"
	"slices"
	"strings"
)

// list is what the words of a list have led to: a row of suites, and those that were killed.
type list struct {
	row, killed []int
}

// carryOut carries out a word; false if it is none.
func (l *list) carryOut(word string) bool {
	if word == "@strength" {
		l.row = Sort(l.row)
		return true
	}
	sign, names := "", word
	if word != "" && strings.Contains("-!+", word[:1]) {
		sign, names = word[:1], word[1:]
	}
	suites, ok := Set(names)
	if !ok {
		return false
	}
	isNamed := func(code int) bool { return slices.Contains(suites, code) }
	switch sign {
	case "":
		l.row = append(l.row, without(suites, func(code int) bool { return slices.Contains(l.row, code) || slices.Contains(l.killed, code) })...)
	case "-":
		l.row = without(l.row, isNamed)
	case "!":
		l.row = without(l.row, isNamed)
		l.killed = append(l.killed, suites...)
	case "+":
		moved := without(l.row, func(code int) bool { return !isNamed(code) })
		l.row = append(without(l.row, isNamed), moved...)
	}
	return true
}

// without returns a row without the suites of which something holds.
func without(l []int, holds func(int) bool) []int {
	var left []int
	for _, code := range l {
		if !holds(code) {
			left = append(left, code)
		}
	}
	return left
}

// named returns the suites that a name stands for, by code.
func named(name string) ([]int, bool) {
	isNamed, ok := meaning(name)
	alg, code := catalog.Find(name), catalog.Code(name)
	if !ok && alg == 0 && code == 0 {
		return nil, false
	}
	var l []int
	for _, s := range catalog.Suites() {
		if ok && isNamed(s) || uses(s, alg) || s.Code == code {
			l = append(l, s.Code)
		}
	}
	return l, true
}

// meaning returns which suites a name stands for that is neither of an algorithm nor of a suite.
func meaning(name string) (func(api.Suite) bool, bool) {
	strong := func(least, most int) func(api.Suite) bool {
		return func(s api.Suite) bool { return Strength(s.Code) >= least && Strength(s.Code) <= most }
	}
	switch name {
	case "all":
		return strong(0, api.MaxStrength), true
	case "high":
		return strong(128, api.MaxStrength), true
	case "medium":
		return strong(112, 127), true
	case "low":
		return strong(0, 111), true
	case "v1", "v2", "v3", "v4":
		version := int(name[1] - '0')
		return func(s api.Suite) bool { return s.Least <= version && version <= s.Most }, true
	}
	return nil, false
}

// uses reports whether a suite has an algorithm.
func uses(s api.Suite, alg int) bool {
	return alg != 0 && (s.Exchange.Alg == alg || s.Sign.Alg == alg || s.Cipher.Alg == alg || s.Mac.Alg == alg)
}
