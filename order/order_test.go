package order_test

import (
	"cipherplan/api"
	"cipherplan/order"
	"fmt"
	"math"
	"math/rand"
	"slices"
	"testing"
)

func r(first, then int) api.Required { return api.Required{First: first, Then: then} }

// random returns requirements that do not lead back.
func random(x *rand.Rand, n int) []api.Required {
	p := x.Perm(n)
	var l []api.Required
	for i := range n {
		for k := range n {
			if p[i] < p[k] && x.Intn(3) == 0 {
				l = append(l, r(i, k))
			}
		}
	}
	return l
}

// wrong returns requirements that are not valid, with their errors.
func wrong() []struct {
	n    int
	l    []api.Required
	want api.Errno
} {
	return []struct {
		n    int
		l    []api.Required
		want api.Errno
	}{
		{25, []api.Required{r(0, 0)}, api.ErrRange}, {-1, nil, api.ErrRange}, {math.MaxInt, nil, api.ErrRange}, {math.MinInt, nil, api.ErrRange},
		{2, []api.Required{r(1, 0), r(1, 0), r(0, 0)}, api.ErrNeed}, {2, []api.Required{r(0, 2)}, api.ErrNeed}, {2, []api.Required{r(-1, 0)}, api.ErrNeed}, {0, []api.Required{r(0, 1)}, api.ErrNeed},
		{2, []api.Required{r(1, 0), r(0, 1)}, api.ErrOrder}, {2, []api.Required{r(0, 1), r(0, 1)}, api.ErrOrder}, {3, []api.Required{r(0, 2), r(0, 1)}, api.ErrOrder},
		{2, []api.Required{r(0, 1), r(1, 0)}, api.ErrLoop}, {3, []api.Required{r(0, 1), r(1, 2), r(2, 0)}, api.ErrLoop},
	}
}

func TestErrors(t *testing.T) { // P29.1 to P29.4
	for _, x := range wrong() {
		c, e1 := order.Closure(x.n, x.l)
		ok, e2 := order.Closed(x.n, x.l, api.Set{-1})
		s, e3 := order.Sets(x.n, x.l)
		a, e4 := order.Ready(x.n, x.l, api.Set{-1})
		b, e5 := order.Removable(x.n, x.l, api.Set{-1})
		f, e6 := order.First(x.n, x.l)
		p, e7 := order.Part(x.n, x.l, api.Set{-1})
		for i, e := range []api.Errno{order.Check(x.n, x.l), e1, e2, e3, e4, e5, e6, e7} {
			if e != x.want {
				t.Errorf("%d, %v: %d: %v", x.n, x.l, i, e)
			}
		}
		if ok || len(c)+len(s)+len(a)+len(b)+len(f)+len(p) > 0 {
			t.Errorf("%d, %v: results with an error", x.n, x.l)
		}
	}
	for _, s := range []api.Set{{-1}, {3}, {1, 0}, {1, 1}, {0, math.MaxInt}} {
		ok, e1 := order.Closed(3, nil, s)
		a, e2 := order.Ready(3, nil, s)
		b, e3 := order.Removable(3, nil, s)
		p, e4 := order.Part(3, nil, s)
		if e1 != api.ErrSet || e2 != api.ErrSet || e3 != api.ErrSet || e4 != api.ErrSet || ok || len(a)+len(b)+len(p) > 0 {
			t.Errorf("%v: %v, %v, %v, %v", s, e1, e2, e3, e4)
		}
	}
	l := []api.Required{r(0, 1)}
	if _, e := order.Ready(2, l, api.Set{1}); e != api.ErrSet {
		t.Error(e)
	}
	if _, e := order.Removable(2, l, api.Set{1}); e != api.ErrSet {
		t.Error(e)
	}
	if ok, e := order.Closed(2, l, api.Set{1}); ok || e != api.OK {
		t.Error(e)
	}
	if _, e := order.Part(2, l, api.Set{1}); e != api.OK {
		t.Error(e)
	}
	if e := order.Check(24, []api.Required{r(0, 23), r(23, 1)}); e != api.OK {
		t.Error(e)
	}
}

func TestExample(t *testing.T) { // P29.3
	s, e := order.Sets(3, []api.Required{r(0, 1)})
	if fmt.Sprint(s) != "[[] [0] [2] [0 1] [0 2] [0 1 2]]" || e != api.OK {
		t.Errorf("%v, %v", s, e)
	}
	if s, e := order.Sets(0, nil); len(s) != 1 || len(s[0]) > 0 || e != api.OK {
		t.Errorf("%v, %v", s, e)
	}
	if c, e := order.Closure(4, []api.Required{r(1, 3), r(2, 1), r(3, 0)}); e != api.OK || !slices.Equal(c, []api.Required{r(1, 0), r(1, 3), r(2, 0), r(2, 1), r(2, 3), r(3, 0)}) {
		t.Errorf("%v, %v", c, e)
	}
	if f, e := order.First(5, []api.Required{r(1, 3), r(2, 1), r(3, 0)}); e != api.OK || !slices.Equal(f, api.Set{2, 1, 3, 0, 4}) {
		t.Errorf("%v, %v", f, e)
	}
	if p, e := order.Part(5, []api.Required{r(1, 3), r(2, 1), r(3, 0)}, api.Set{0, 2, 4}); e != api.OK || !slices.Equal(p, []api.Required{r(1, 0)}) {
		t.Errorf("%v, %v", p, e)
	}
}

func TestManySets(t *testing.T) { // P29.3
	if s, e := order.Sets(12, nil); len(s) != 4096 || e != api.OK {
		t.Errorf("%d, %v", len(s), e)
	}
	if s, e := order.Sets(13, []api.Required{r(0, 1)}); len(s) > 0 || e != api.ErrLimit {
		t.Errorf("%d, %v", len(s), e)
	}
	if s, e := order.Sets(24, nil); len(s) > 0 || e != api.ErrLimit {
		t.Errorf("%d, %v", len(s), e)
	}
	var l []api.Required
	for i := range 23 {
		l = append(l, r(i, i+1))
	}
	if s, e := order.Sets(24, l); len(s) != 25 || len(s[24]) != 24 || e != api.OK {
		t.Errorf("%d, %v", len(s), e)
	}
}

// less reports whether a set comes before another one.
func less(a, b api.Set) bool {
	if len(a) != len(b) {
		return len(a) < len(b)
	}
	return slices.Compare(a, b) < 0
}

// TestAtRandom holds everything against closed sets that are found by trying all sets.
func TestAtRandom(t *testing.T) {
	x := rand.New(rand.NewSource(1))
	for range 300 {
		n := x.Intn(7)
		l := random(x, n)
		var want []api.Set
		for bits := range 1 << n {
			var s api.Set
			for i := range n {
				if bits>>i&1 == 1 {
					s = append(s, i)
				}
			}
			closed := !slices.ContainsFunc(l, func(r api.Required) bool { return slices.Contains(s, r.Then) && !slices.Contains(s, r.First) })
			if ok, e := order.Closed(n, l, s); ok != closed || e != api.OK {
				t.Fatalf("%v, %v: %v, %v", l, s, ok, e)
			}
			if closed {
				want = append(want, s)
			}
			checkPart(t, n, l, s)
		}
		slices.SortFunc(want, func(a, b api.Set) int {
			if less(a, b) {
				return -1
			}
			return 1
		})
		sets, e := order.Sets(n, l)
		if !slices.EqualFunc(sets, want, slices.Equal[api.Set]) || e != api.OK {
			t.Fatalf("%v: %v, not %v", l, sets, want)
		}
		checkSteps(t, n, l, sets)
		checkFirst(t, n, l)
	}
}

// checkPart checks that the closed sets of Part are what closed sets have in common with the set.
func checkPart(t *testing.T, n int, l []api.Required, s api.Set) {
	part, e := order.Part(n, l, s)
	if e != api.OK {
		t.Fatal(e)
	}
	parts, e := order.Sets(len(s), part)
	if e != api.OK {
		t.Fatal(e)
	}
	have, want := map[string]bool{}, map[string]bool{}
	for _, p := range parts {
		var at api.Set
		for _, i := range p {
			at = append(at, s[i])
		}
		have[fmt.Sprint(at)] = true
	}
	all, _ := order.Sets(n, l)
	for _, c := range all {
		want[fmt.Sprint(slices.DeleteFunc(c, func(i int) bool { return !slices.Contains(s, i) }))] = true
	}
	if len(have) != len(want) {
		t.Fatalf("%v, %v: %v, not %v", l, s, have, want)
	}
	for k := range have {
		if !want[k] {
			t.Fatalf("%v, %v: %v, not %v", l, s, have, want)
		}
	}
}

// checkSteps checks Ready and Removable by trying.
func checkSteps(t *testing.T, n int, l []api.Required, sets []api.Set) {
	isClosed := func(s api.Set) bool {
		s = slices.Clone(s)
		slices.Sort(s)
		return slices.ContainsFunc(sets, func(c api.Set) bool { return slices.Equal(c, s) })
	}
	for _, s := range sets {
		var ready, removable api.Set
		for i := range n {
			at := slices.Index(s, i)
			if at < 0 && isClosed(append(slices.Clone(s), i)) {
				ready = append(ready, i)
			}
			if at >= 0 && isClosed(slices.Delete(slices.Clone(s), at, at+1)) {
				removable = append(removable, i)
			}
		}
		a, e := order.Ready(n, l, s)
		b, f := order.Removable(n, l, s)
		if !slices.Equal(a, ready) || !slices.Equal(b, removable) || e != api.OK || f != api.OK {
			t.Fatalf("%v, %v: %v, %v", l, s, a, b)
		}
	}
}

// checkFirst checks that each beginning of First is closed, and that at each place the least possible index stands.
func checkFirst(t *testing.T, n int, l []api.Required) {
	first, e := order.First(n, l)
	if len(first) != n || e != api.OK {
		t.Fatalf("%v: %v, %v", l, first, e)
	}
	for k := range n {
		s := slices.Clone(first[:k])
		slices.Sort(s)
		ready, e := order.Ready(n, l, s)
		if e != api.OK || ready[0] != first[k] {
			t.Fatalf("%v: %v", l, first)
		}
	}
}

func TestMemory(t *testing.T) { // R3
	l, s := []api.Required{r(0, 1), r(1, 2)}, api.Set{0, 1}
	apart(t, "Closure", func() []api.Required { c, _ := order.Closure(3, l); return c }, l)
	apart(t, "Sets", func() []api.Set { c, _ := order.Sets(3, l); return c }, l)
	apart(t, "Ready", func() api.Set { c, _ := order.Ready(3, l, s); return c }, l, s)
	apart(t, "Removable", func() api.Set { c, _ := order.Removable(3, l, s); return c }, l, s)
	apart(t, "Part", func() []api.Required { c, _ := order.Part(3, l, s); return c }, l, s)
}
