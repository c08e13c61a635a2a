package packages

import (
	"cipherplan/api"
	"cipherplan/text"
	"cmp"
	"strconv"
	"strings"
)

// Version returns the version of a text.
func Version(s string) ([]int, api.Errno) {
	if strings.Count(s, ".") >= api.MaxParts {
		return nil, api.ErrVersion
	}
	var v []int
	for _, part := range strings.Split(s, ".") {
		n, ok := text.Number(part, len(strconv.Itoa(api.MaxPart)))
		if !ok {
			return nil, api.ErrVersion
		}
		v = append(v, n)
	}
	return v, api.OK
}

// Text returns the text of a version.
func Text(v []int) (string, api.Errno) {
	if !isVersion(v) {
		return "", api.ErrVersion
	}
	var parts []string
	for _, n := range v {
		parts = append(parts, strconv.Itoa(n))
	}
	return strings.Join(parts, "."), api.OK
}

// isVersion reports whether numbers are a version.
func isVersion(v []int) bool {
	for _, n := range v {
		if n < 0 || n > api.MaxPart {
			return false
		}
	}
	return len(v) >= 1 && len(v) <= api.MaxParts
}

// isRange reports whether a range is valid.
func isRange(r api.Range) bool {
	return (len(r.Low) == 0 || isVersion(r.Low)) && (len(r.High) == 0 || isVersion(r.High))
}

// Compare compares versions.
func Compare(a, b []int) int {
	for i := range max(len(a), len(b)) {
		if c := cmp.Compare(part(a, i), part(b, i)); c != 0 {
			return c
		}
	}
	return 0
}

// part returns a number of a version; those that are missing are 0.
func part(v []int, i int) int {
	if i < len(v) {
		return v[i]
	}
	return 0
}

// In reports whether a version is in a range.
func In(r api.Range, v []int) bool {
	return (len(r.Low) == 0 || Compare(v, r.Low) >= 0) && (len(r.High) == 0 || Compare(v, r.High) < 0)
}
