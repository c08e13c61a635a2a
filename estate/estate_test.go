package estate_test

import (
	"cipherplan/api"
	"cipherplan/change"
	"cipherplan/clone"
	"cipherplan/endpoint"
	"cipherplan/estate"
	"cipherplan/sample"
	"math/rand"
	"reflect"
	"slices"
	"testing"
)

func set(endpoint, kind, number int) api.Change {
	return api.Change{Endpoint: endpoint, Kind: kind, Number: number}
}

// wrong returns an estate that is not valid.
func wrong() api.Estate {
	e := sample.Estate()
	e.Endpoints[2].Most = 9
	return e
}

func TestIndex(t *testing.T) { // P25.1
	for name, want := range map[string]int{"app": 0, "db": 1, "web": 2} {
		if i, ok := estate.Index(sample.Estate(), name); i != want || !ok {
			t.Errorf("%s: %d, %v", name, i, ok)
		}
	}
	for _, name := range []string{"", "x", "ap"} {
		if i, ok := estate.Index(sample.Estate(), name); i != 0 || ok {
			t.Errorf("%s: %d, %v", name, i, ok)
		}
	}
}

func TestApply(t *testing.T) { // P25.1
	e := sample.Estate()
	got, f := estate.Apply(e, set(1, api.DropSuite, 10))
	want := sample.Estate()
	want.Endpoints[1].Suites = []int{8, 2}
	if f != api.OK || !estate.Same(got, want) {
		t.Errorf("%v, %v", got, f)
	}
	for _, x := range []struct {
		e    api.Estate
		c    api.Change
		want api.Errno
	}{{wrong(), set(3, 0, 0), api.ErrEstate}, {e, set(3, 0, 0), api.ErrChange}, {e, set(-1, 0, 0), api.ErrChange}, {e, set(0, 0, 0), api.ErrChange}, {e, set(0, api.DropSuite, 15), api.ErrDone}, {e, set(0, api.SetMost, 5), api.ErrValue}, {e, set(0, api.SetOrder, 5), api.ErrRange}} {
		if got, f := estate.Apply(x.e, x.c); f != x.want || !reflect.DeepEqual(got, api.Estate{}) {
			t.Errorf("%v: %v, %v", x.c, got, f)
		}
	}
}

func TestState(t *testing.T) { // P25.2
	e := sample.Estate()
	l := []api.Change{set(0, api.DropSuite, 2), set(0, api.DropSuite, 8), set(2, api.SetMost, 4), set(0, api.AddSuite, 2), set(1, api.DropSuite, 99), set(9, api.SetMost, 4)}
	for name, x := range map[string]struct {
		s    api.Set
		want api.Errno
	}{
		"none": {nil, api.OK}, "one": {api.Set{2}, api.OK}, "two": {api.Set{0, 1}, api.OK}, "there and back": {api.Set{0, 3}, api.OK},
		"first error": {api.Set{3, 5}, api.ErrDone}, "another": {api.Set{0, 4, 5}, api.ErrDone}, "no endpoint": {api.Set{5}, api.ErrChange},
		"twice": {api.Set{0, 0}, api.ErrSet}, "descending": {api.Set{1, 0}, api.ErrSet}, "6": {api.Set{3, 6}, api.ErrSet}, "-1": {api.Set{-1, 3}, api.ErrSet},
	} {
		got, f := estate.State(e, l, x.s)
		if f != x.want || f != api.OK && !reflect.DeepEqual(got, api.Estate{}) {
			t.Errorf("%s: %v", name, f)
		}
		if f != api.OK {
			continue
		}
		want := e
		for _, i := range x.s {
			want, _ = estate.Apply(want, l[i])
		}
		if !estate.Same(got, want) {
			t.Errorf("%s: %v", name, got)
		}
	}
	many := slices.Repeat(l, 5)
	if _, f := estate.State(wrong(), many, api.Set{-1}); f != api.ErrEstate {
		t.Error(f)
	}
	if _, f := estate.State(e, many, api.Set{-1}); f != api.ErrLimit {
		t.Error(f)
	}
	if _, f := estate.State(e, many[:24], api.Set{23}); f != api.ErrChange {
		t.Error(f)
	}
}

func TestRelevant(t *testing.T) { // P25.3
	e := sample.Estate()
	l := []api.Change{set(0, 0, 0), set(1, 0, 0), set(2, 0, 0), set(0, 0, 0), set(9, 0, 0)}
	for edge, want := range []api.Set{{0, 1, 3}, {0, 2, 3}, {1, 2}} {
		if s, f := estate.Relevant(e, l, edge); f != api.OK || !slices.Equal(s, want) {
			t.Errorf("%d: %v, %v", edge, s, f)
		}
	}
	for _, edge := range []int{-1, 3} {
		if s, f := estate.Relevant(e, l, edge); f != api.ErrNone || len(s) > 0 {
			t.Errorf("%d: %v, %v", edge, s, f)
		}
		if _, f := estate.Relevant(e, slices.Repeat(l, 5), edge); f != api.ErrLimit {
			t.Error(f)
		}
		if _, f := estate.Relevant(wrong(), slices.Repeat(l, 5), edge); f != api.ErrEstate {
			t.Error(f)
		}
	}
}

func TestCommute(t *testing.T) { // P25.3
	add := func(endpoint, suite, at int) api.Change {
		return api.Change{Endpoint: endpoint, Kind: api.AddSuite, Number: suite, At: at}
	}
	for name, x := range map[string]struct {
		a, b api.Change
		want bool
	}{
		"different endpoints": {add(0, 15, 0), add(1, 15, 0), true},
		"different things":    {set(0, api.SetMost, 4), set(0, api.DropSuite, 2), true},
		"one place":           {add(0, 15, 0), add(0, 14, 0), false},
		"other places":        {set(0, api.DropSuite, 2), set(0, api.DropSuite, 8), true},
		"the same":            {set(0, api.DropSuite, 2), set(0, api.DropSuite, 2), false},
		"one needs another":   {set(0, api.SetMost, 4), set(0, api.SetLeast, 4), false},
		"impossible":          {set(0, api.DropSuite, 2), set(1, api.DropSuite, 99), false},
		"no endpoint":         {set(0, api.DropSuite, 2), set(7, api.DropSuite, 2), false},
	} {
		ok, f := estate.Commute(sample.Estate(), x.a, x.b)
		back, g := estate.Commute(sample.Estate(), x.b, x.a)
		if f != api.OK || g != api.OK || ok != x.want || back != x.want {
			t.Errorf("%s: %v, %v", name, ok, back)
		}
	}
	if ok, f := estate.Commute(wrong(), set(0, api.SetMost, 4), set(1, api.SetMost, 4)); ok || f != api.ErrEstate {
		t.Errorf("%v, %v", ok, f)
	}
}

func TestSame(t *testing.T) { // P25.1
	for name, f := range map[string]func(*api.Estate){
		"endpoint":  func(e *api.Estate) { e.Endpoints[1].Suites[0]++ },
		"endpoints": func(e *api.Estate) { e.Endpoints = e.Endpoints[:2] },
		"edge":      func(e *api.Estate) { e.Edges[0].Client++ },
		"edges":     func(e *api.Estate) { e.Edges = nil },
		"items":     func(e *api.Estate) { e.Items = e.Items[:1] },
		"name":      func(e *api.Estate) { e.Items[0].Name = "x" },
		"kind":      func(e *api.Estate) { e.Items[0].Kind++ },
		"purpose":   func(e *api.Estate) { e.Items[0].Purpose++ },
		"until":     func(e *api.Estate) { e.Items[0].Until++ },
		"link":      func(e *api.Estate) { e.Items[0].Links[0].Day++ },
		"links":     func(e *api.Estate) { e.Items[0].Links = nil },
	} {
		e := sample.Estate()
		f(&e)
		if estate.Same(e, sample.Estate()) || !estate.Same(e, e) {
			t.Error(name)
		}
	}
	if !estate.Same(api.Estate{}, api.Estate{Edges: []api.Edge{}}) {
		t.Error("empty")
	}
}

func TestConsequences(t *testing.T) { // changes of different endpoints commute; the ends of an edge depend on its relevant changes alone
	r := rand.New(rand.NewSource(1))
	e := sample.Estate()
	for range 500 {
		var l []api.Change
		for range 6 {
			c := set(r.Intn(3), []int{api.DropSuite, api.SetMost, api.SetFallback, api.AddAnchor}[r.Intn(4)], r.Intn(11))
			l = append(l, c)
		}
		a, b := l[0], l[1]
		if a.Endpoint != b.Endpoint && change.Check(e.Endpoints[a.Endpoint], a) == api.OK && change.Check(e.Endpoints[b.Endpoint], b) == api.OK {
			if ok, _ := estate.Commute(e, a, b); !ok {
				t.Fatalf("%v, %v", a, b)
			}
		}
		all, f := estate.State(e, l, api.Set{0, 1, 2, 3, 4, 5})
		if f != api.OK {
			continue
		}
		for edge, x := range e.Edges {
			s, _ := estate.Relevant(e, l, edge)
			part, f := estate.State(e, l, s)
			if f != api.OK || !endpoint.Same(all.Endpoints[x.Client], part.Endpoints[x.Client]) || !endpoint.Same(all.Endpoints[x.Server], part.Endpoints[x.Server]) {
				t.Fatalf("%v, %d", l, edge)
			}
		}
	}
}

func TestMemory(t *testing.T) { // R3
	e := clone.Estate(sample.Estate())
	l := []api.Change{set(0, api.DropSuite, 2), {Endpoint: 1, Kind: api.AddIdentity, Identity: sample.Identity("db", sample.RSA(), 9, 9)}}
	apart(t, "Apply", func() api.Estate { x, _ := estate.Apply(e, l[1]); return x }, e, l)
	apart(t, "State", func() api.Estate { x, _ := estate.State(e, l, api.Set{0, 1}); return x }, e, l)
	apart(t, "State of none", func() api.Estate { x, _ := estate.State(e, nil, nil); return x }, e)
	apart(t, "Relevant", func() api.Set { s, _ := estate.Relevant(e, l, 0); return s }, e, l)
}
