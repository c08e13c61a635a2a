package order

import (
	"cipherplan/api"
	"iter"
	"math/bits"
)

// set is a set of changes: a number whose bits are their indices.
type set uint32

// read returns a set, if requirements and set are valid.
func read(n int, l []api.Required, s api.Set) (set, api.Errno) {
	if e := Check(n, l); e != api.OK {
		return 0, e
	}
	t := set(0)
	for i, at := range s {
		if at < 0 || at >= n || i > 0 && s[i-1] >= at {
			return 0, api.ErrSet
		}
		t = t.with(at)
	}
	return t, api.OK
}

// readClosed returns a set, if it is closed, too.
func readClosed(n int, l []api.Required, s api.Set) (set, api.Errno) {
	t, e := read(n, l, s)
	if e == api.OK && !t.isClosed(l) {
		e = api.ErrSet
	}
	return t, e
}

// with returns the set with an index.
func (s set) with(i int) set {
	return s | 1<<i
}

// without returns the set without an index.
func (s set) without(i int) set {
	return s &^ (1 << i)
}

// has reports whether the set has an index.
func (s set) has(i int) bool {
	return s>>i&1 == 1
}

// all goes through the indices of the set.
func (s set) all() iter.Seq[int] {
	return func(yield func(int) bool) {
		for left := uint32(s); left != 0; left &= left - 1 {
			if !yield(bits.TrailingZeros32(left)) {
				return
			}
		}
	}
}

// indices returns the set as it is handed out.
func (s set) indices() api.Set {
	var l api.Set
	for i := range s.all() {
		l = append(l, i)
	}
	return l
}

// isClosed reports whether the set has with each Then its First.
func (s set) isClosed(l []api.Required) bool {
	for _, r := range l {
		if s.has(r.Then) && !s.has(r.First) {
			return false
		}
	}
	return true
}

// ready returns what can be added to the closed set.
func (s set) ready(n int, l []api.Required) set {
	some := set(1<<n-1) &^ s
	for _, r := range l {
		if !s.has(r.First) {
			some = some.without(r.Then)
		}
	}
	return some
}

// compare compares sets of as many indices: the one with the first index that only one of both has comes first.
func (s set) compare(t set) int {
	differ := uint32(s ^ t)
	if differ == 0 {
		return 0
	}
	if s.has(bits.TrailingZeros32(differ)) {
		return -1
	}
	return 1
}
