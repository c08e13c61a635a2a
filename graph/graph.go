// Package graph contains what layers ask of requirements: whether they lead back, and what follows from them.
package graph

import "cipherplan/api"

// Check returns the error of requirements between some changes.
func Check(n int, l []api.Required) api.Errno {
	if n < 0 || n > api.MaxChanges {
		return api.ErrRange
	}
	for _, r := range l {
		if r.First < 0 || r.First >= n || r.Then < 0 || r.Then >= n || r.First == r.Then {
			return api.ErrNeed
		}
	}
	for i := 1; i < len(l); i++ {
		if l[i-1].First > l[i].First || l[i-1].First == l[i].First && l[i-1].Then >= l[i].Then {
			return api.ErrOrder
		}
	}
	for i, behind := range Behind(n, l) {
		if behind>>i&1 == 1 {
			return api.ErrLoop
		}
	}
	return api.OK
}

// Behind returns, for each change, a number with the bits of all that come behind it, also by others.
func Behind(n int, l []api.Required) []uint32 {
	behind := make([]uint32, n)
	for _, r := range l {
		behind[r.First] |= 1 << r.Then
	}
	// After each round, ways that go by one more change are known.
	for by := range n {
		for i := range n {
			if behind[i]>>by&1 == 1 {
				behind[i] |= behind[by]
			}
		}
	}
	return behind
}

// Pairs returns the requirements with bits, ascending.
func Pairs(behind []uint32) []api.Required {
	var l []api.Required
	for i, bits := range behind {
		for k := range behind {
			if bits>>k&1 == 1 {
				l = append(l, api.Required{First: i, Then: k})
			}
		}
	}
	return l
}
