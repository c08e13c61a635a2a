package need_test

import (
	"cipherplan/api"
	"cipherplan/graph"
	"cipherplan/need"
	"cipherplan/sample"
	"math/rand"
	"slices"
	"testing"
)

func set(endpoint, kind, number int) api.Change {
	return api.Change{Endpoint: endpoint, Kind: kind, Number: number}
}

func r(first, then int) api.Required { return api.Required{First: first, Then: then} }

func wrong() api.Estate {
	e := sample.Estate()
	e.Endpoints[0].Most = 9
	return e
}

func TestRank(t *testing.T) { // P28.1
	e := sample.Endpoint("web", 1, 10)
	e.Least, e.Most = 2, 3
	for _, x := range []struct{ kind, number, want int }{
		{api.AddAnchor, 5, 0}, {api.AddHash, 5, 0}, {api.AddIdentity, 0, 1}, {api.AddSuite, 5, 2},
		{api.SetMost, 4, 2}, {api.SetMost, 3, 3}, {api.SetMost, 2, 3}, {api.SetLeast, 1, 2}, {api.SetLeast, 2, 3}, {api.SetLeast, 3, 3},
		{api.SetFallback, 1, 2}, {api.SetFallback, 0, 3}, {api.SetFallback, 2, 3}, {api.SetOrder, 0, 2}, {api.SetOrder, 1, 2}, {api.SetOrder, 7, 2},
		{api.DropSuite, 10, 3}, {api.DropIdentity, 1, 3}, {api.DropAnchor, 1, 3}, {api.DropHash, 1, 3}, {0, 1, 3}, {13, 1, 3}, {-1, 1, 3},
	} {
		if n := need.Rank(e, set(9, x.kind, x.number)); n != x.want {
			t.Errorf("%v: %d", x, n)
		}
	}
}

func TestDerive(t *testing.T) { // P28.1
	e := sample.Estate()
	e.Edges = e.Edges[:2] // app speaks with db, and with web
	l := []api.Change{set(1, api.DropSuite, 2), set(0, api.AddAnchor, 5), {Endpoint: 1, Kind: api.AddIdentity}, set(0, api.DropSuite, 2), set(2, api.AddSuite, 5), set(1, api.AddHash, 1)}
	want := []api.Required{r(1, 0), r(1, 2), r(1, 3), r(1, 4), r(2, 0), r(2, 3), r(4, 3), r(5, 0), r(5, 2), r(5, 3)}
	if got, f := need.Derive(e, l); f != api.OK || !slices.Equal(got, want) {
		t.Errorf("%v, %v", got, f)
	}
	e.Edges = []api.Edge{{Client: 1, Server: 2}} // web asks db nothing any more
	want = []api.Required{r(1, 3), r(2, 0), r(2, 4), r(4, 0), r(5, 0), r(5, 2), r(5, 4)}
	if got, f := need.Derive(e, l); f != api.OK || !slices.Equal(got, want) {
		t.Errorf("%v, %v", got, f)
	}
	if got, f := need.Derive(e, nil); f != api.OK || len(got) > 0 {
		t.Errorf("%v, %v", got, f)
	}
	if got, f := need.Derive(e, slices.Repeat(l, 4)); f != api.OK || len(got) != 7*16 {
		t.Errorf("24 changes: %d, %v", len(got), f)
	}
	none := append(slices.Clone(l), set(3, 1, 1))
	for _, x := range []struct {
		e    api.Estate
		l    []api.Change
		want api.Errno
	}{{wrong(), slices.Repeat(none, 5), api.ErrEstate}, {e, slices.Repeat(none, 5), api.ErrLimit}, {e, none, api.ErrChange}, {e, []api.Change{set(-1, 1, 1)}, api.ErrChange}} {
		if got, f := need.Derive(x.e, x.l); f != x.want || len(got) > 0 {
			t.Errorf("%v, %v", got, f)
		}
	}
}

func TestUnion(t *testing.T) { // P28.2
	a, b := []api.Required{r(2, 1), r(0, 5), r(2, 1)}, []api.Required{r(0, 3), r(2, 1), r(2, 0)}
	want := []api.Required{r(0, 3), r(0, 5), r(2, 0), r(2, 1)}
	if l := need.Union(a, b); !slices.Equal(l, want) || !slices.Equal(need.Union(b, a), want) || !slices.Equal(need.Union(want, want), want) {
		t.Error(l)
	}
	if l := need.Union(nil, nil); len(l) > 0 {
		t.Error(l)
	}
}

func TestReduce(t *testing.T) { // P28.2
	for _, x := range []struct {
		n       int
		l, want []api.Required
	}{
		{3, []api.Required{r(0, 1), r(0, 2), r(1, 2)}, []api.Required{r(0, 1), r(1, 2)}},
		{4, []api.Required{r(0, 1), r(0, 2), r(0, 3), r(1, 3), r(2, 3)}, []api.Required{r(0, 1), r(0, 2), r(1, 3), r(2, 3)}},
		{4, []api.Required{r(0, 3), r(1, 0), r(1, 3), r(3, 2)}, []api.Required{r(0, 3), r(1, 0), r(3, 2)}},
		{0, nil, nil},
		{24, []api.Required{r(22, 23)}, []api.Required{r(22, 23)}},
	} {
		if got, e := need.Reduce(x.n, x.l); e != api.OK || !slices.Equal(got, x.want) {
			t.Errorf("%v: %v, %v", x.l, got, e)
		}
	}
	for _, x := range []struct {
		n    int
		l    []api.Required
		want api.Errno
	}{{25, []api.Required{r(0, 0)}, api.ErrRange}, {-1, nil, api.ErrRange}, {2, []api.Required{r(1, 0), r(1, 0), r(0, 0)}, api.ErrNeed}, {2, []api.Required{r(0, 2)}, api.ErrNeed}, {2, []api.Required{r(1, 0), r(0, 1)}, api.ErrOrder}, {2, []api.Required{r(0, 1), r(0, 1)}, api.ErrOrder}, {2, []api.Required{r(0, 1), r(1, 0)}, api.ErrLoop}} {
		if got, e := need.Reduce(x.n, x.l); e != x.want || len(got) > 0 {
			t.Errorf("%v: %v, %v", x.l, got, e)
		}
	}
}

func TestSameFollows(t *testing.T) { // consequence: from Reduce the same follows as from the list, and not from a part of it
	random := rand.New(rand.NewSource(1))
	for range 500 {
		n := 1 + random.Intn(8)
		p := random.Perm(n)
		var l []api.Required
		for i := range n {
			for k := range n {
				if p[i] < p[k] && random.Intn(3) > 0 {
					l = append(l, r(i, k))
				}
			}
		}
		less, e := need.Reduce(n, l)
		all := graph.Behind(n, l)
		if e != api.OK || !slices.Equal(graph.Behind(n, less), all) {
			t.Fatalf("%v: %v, %v", l, less, e)
		}
		for i := range less {
			if slices.Equal(graph.Behind(n, slices.Delete(slices.Clone(less), i, i+1)), all) {
				t.Fatalf("%v: %v follows", l, less[i])
			}
		}
	}
}

func TestChain(t *testing.T) { // P28.2
	if l := need.Chain([]int{3, 1, 2, 0}); !slices.Equal(l, []api.Required{r(1, 2), r(2, 0), r(3, 1)}) {
		t.Error(l)
	}
	if len(need.Chain(nil))+len(need.Chain([]int{5})) > 0 {
		t.Error("nothing to do")
	}
}

func TestWhy(t *testing.T) { // P28.3
	e := sample.Estate()
	e.Edges = []api.Edge{{Client: 0, Server: 1}, {Client: 0, Server: 2}, {Client: 1, Server: 0}}
	l := []api.Change{set(0, 1, 1), set(1, 1, 1), set(2, 1, 1), set(0, 1, 1), set(9, 1, 1)}
	for _, x := range []struct {
		r    api.Required
		want []int
	}{{r(0, 1), []int{0, 2}}, {r(1, 0), []int{0, 2}}, {r(2, 3), []int{1}}, {r(1, 2), nil}, {r(0, 3), nil}, {r(0, 0), nil}} {
		if got, f := need.Why(e, l, x.r); f != api.OK || !slices.Equal(got, x.want) {
			t.Errorf("%v: %v, %v", x.r, got, f)
		}
	}
	for _, x := range []struct {
		e    api.Estate
		l    []api.Change
		r    api.Required
		want api.Errno
	}{{wrong(), slices.Repeat(l, 6), r(-1, 4), api.ErrEstate}, {e, slices.Repeat(l, 6), r(-1, 4), api.ErrLimit}, {e, l, r(-1, 4), api.ErrNeed}, {e, l, r(4, 5), api.ErrNeed}, {e, l, r(5, 4), api.ErrNeed}, {e, l, r(9, 0), api.ErrNeed}, {e, l, r(0, -1), api.ErrNeed}, {e, l, r(0, 4), api.ErrChange}, {e, l, r(4, 0), api.ErrChange}} {
		if got, f := need.Why(x.e, x.l, x.r); f != x.want || len(got) > 0 {
			t.Errorf("%v: %v, %v", x.r, got, f)
		}
	}
}

func TestRanksAscend(t *testing.T) { // consequence: what Derive returns leads nowhere back
	random := rand.New(rand.NewSource(2))
	for range 300 {
		var l []api.Change
		for range random.Intn(10) {
			l = append(l, set(random.Intn(3), 1+random.Intn(12), random.Intn(5)))
		}
		needs, e := need.Derive(sample.Estate(), l)
		if e != api.OK || graph.Check(len(l), needs) != api.OK {
			t.Fatalf("%v: %v", l, needs)
		}
	}
}

func TestMemory(t *testing.T) { // R3
	a, e, l := []api.Required{r(2, 1), r(0, 5)}, sample.Estate(), []api.Change{set(0, api.AddHash, 1), set(1, api.DropSuite, 1)}
	apart(t, "Union", func() []api.Required { return need.Union(a, nil) }, a)
	apart(t, "Derive", func() []api.Required { l, _ := need.Derive(e, l); return l }, e, l)
	apart(t, "Reduce", func() []api.Required { l, _ := need.Reduce(3, a[:1]); return l }, a)
	apart(t, "Why", func() []int { l, _ := need.Why(e, l, r(0, 1)); return l }, e, l)
}
