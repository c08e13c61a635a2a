package reopen_test

import (
	"cipherplan/api"
	"cipherplan/finding"
	"cipherplan/identity"
	"cipherplan/order"
	"cipherplan/reopen"
	"cipherplan/sample"
	"math/rand"
	"reflect"
	"slices"
	"testing"
)

func at(host string, machine, day int) api.Finding {
	return api.Finding{Source: 1, Host: host, Machine: machine, Day: day, Confidence: 50, Kind: api.FindMost, Subject: "tls", Number: 1}
}

// use returns a finding of a kind about a use.
func use(host string, day, kind int, u api.Use) api.Finding {
	return api.Finding{Source: 1, Host: host, Day: day, Confidence: 50, Kind: kind, Subject: "tls", Use: u}
}

func norm(t *testing.T, l ...api.Finding) []api.Finding {
	t.Helper()
	n, e := finding.Norm(l)
	if e != api.OK {
		t.Fatal(e)
	}
	return n
}

func r(first, then int) api.Required { return api.Required{First: first, Then: then} }

func TestHosts(t *testing.T) { // P39.1
	l := norm(t, at("a", 1, 1), at("b", 1, 2), at("c", 2, 1), at("d", 0, 5), at("e", 3, 1))
	for name, x := range map[string]struct {
		f    api.Finding
		want []string
	}{
		"its own":        {at("z", 0, 1), []string{"z"}},
		"by the host":    {at("a", 0, 9), []string{"a", "b"}},
		"by the machine": {at("z", 2, 9), []string{"c", "z"}},
		"by both":        {at("c", 1, 9), []string{"a", "b", "c"}},
		"a new machine":  {at("d", 7, 5), []string{"d"}},
		"joins two":      {at("d", 3, 5), []string{"d", "e"}},
		"there already":  {at("c", 2, 1), []string{"c"}},
	} {
		if h, e := reopen.Hosts(l, 3, x.f); e != api.OK || !slices.Equal(h, x.want) {
			t.Errorf("%s: %v, %v", name, h, e)
		}
	}
	if h, e := reopen.Hosts(nil, 0, at("a", 0, 1)); e != api.OK || !slices.Equal(h, []string{"a"}) {
		t.Errorf("%v, %v", h, e)
	}
	var full []api.Finding
	for i := range 400 {
		full = append(full, at("a", 0, i))
	}
	for i, x := range []struct {
		l    []api.Finding
		gap  int
		f    api.Finding
		want api.Errno
	}{{slices.Concat(l, l), -1, at("a", 0, 1), api.ErrFinding}, {l, -1, api.Finding{}, api.ErrFinding}, {l, -1, at("a", 0, 1), api.ErrRange}, {full, api.MaxGap + 1, at("b", 0, 1), api.ErrRange}, {full, 1, at("b", 0, 1), api.ErrLimit}} {
		if h, e := reopen.Hosts(x.l, x.gap, x.f); e != x.want || len(h) > 0 {
			t.Errorf("%d: %v, %v", i, h, e)
		}
	}
	if _, e := reopen.Hosts(full, 1, full[7]); e != api.OK {
		t.Error(e)
	}
}

// plan returns changes of app, db, web and db.
func plan() api.Plan {
	change := func(endpoint int) api.Change { return api.Change{Endpoint: endpoint} }
	return api.Plan{Changes: []api.Change{change(0), change(1), change(2), change(1)}}
}

// ledger returns decisions of all kinds.
func ledger() api.Ledger {
	var d api.Ledger
	for day := range 2 {
		for kind := 1; kind <= api.Decides; kind++ {
			for subject := range 4 {
				d.Decisions = append(d.Decisions, api.Decision{Day: 10 + day, Kind: kind, Subject: subject})
			}
		}
	}
	return d
}

func TestTouch(t *testing.T) { // P39.2
	sha1 := api.Use{Alg: api.SHA1}
	e := sample.Estate()
	e.Edges = e.Edges[:2] // app speaks with db, and with web
	e.Items[1].Links = []api.Link{{Use: api.Use{Alg: api.MD5}, Day: 1}, {Use: sha1, Day: 2}}
	e.Items = append(e.Items, e.Items[0])
	e.Items[2].Links = []api.Link{{Use: api.Use{Alg: api.MD5}, Day: 1}}
	key := use("db", 11, api.FindKey, sample.RSA())
	for name, x := range map[string]struct {
		f    api.Finding
		want api.Touched
	}{
		"a server":         {at("db", 0, 11), api.Touched{Endpoints: []int{1}, Edges: []int{0}, Changes: []int{1, 3}, Decisions: []int{24, 29, 31}}},
		"from the day on":  {at("db", 0, 10), api.Touched{Endpoints: []int{1}, Edges: []int{0}, Changes: []int{1, 3}, Decisions: []int{4, 9, 11, 24, 29, 31}}},
		"a later day":      {at("db", 0, 12), api.Touched{Endpoints: []int{1}, Edges: []int{0}, Changes: []int{1, 3}}},
		"a client":         {at("app", 0, 12), api.Touched{Endpoints: []int{0}, Edges: []int{0, 1}, Changes: []int{0}}},
		"nobody":           {at("x", 0, 1), api.Touched{}},
		"a use":            {use("x", 11, api.FindUse, sha1), api.Touched{Items: []int{0, 1}, Decisions: []int{22, 38}}},
		"no use any more":  {use("x", 11, api.FindOff, api.Use{Alg: api.MD5}), api.Touched{Items: []int{1, 2}, Decisions: []int{21, 37}}},
		"a key is no item": {key, api.Touched{Endpoints: []int{1}, Edges: []int{0}, Changes: []int{1, 3}, Decisions: []int{24, 29, 31}}},
	} {
		if got, g := reopen.Touch(e, plan(), ledger(), nil, 1, x.f); g != api.OK || !reopen.Same(got, x.want) {
			t.Errorf("%s: %v, %v", name, got, g)
		}
	}
	gone := api.Ledger{Decisions: []api.Decision{{Day: 20, Kind: api.DecideGone, Subject: api.RSA}, {Day: 20, Kind: api.DecideAllow, Subject: api.RSA}, {Day: 20, Kind: api.DecideAllow}, {Day: 20, Kind: api.DecideStop}}}
	if got, g := reopen.Touch(e, plan(), gone, nil, 1, key); g != api.OK || !slices.Equal(got.Decisions, []int{0, 1}) {
		t.Errorf("%v, %v", got, g)
	}
	if got, g := reopen.Touch(e, plan(), gone, nil, 1, at("x", 0, 1)); g != api.OK || len(got.Decisions) > 0 {
		t.Errorf("%v, %v", got, g)
	}
	l := norm(t, at("db", 5, 1), at("web", 5, 2))
	if got, g := reopen.Touch(e, plan(), api.Ledger{}, l, 1, at("db", 0, 1)); g != api.OK || !slices.Equal(got.Endpoints, []int{1, 2}) {
		t.Errorf("%v, %v", got, g)
	}
}

func TestTouchErrors(t *testing.T) { // P39.2
	wrong := sample.Estate()
	wrong.Endpoints[0].Most = 9
	many := api.Ledger{Decisions: make([]api.Decision, 129)}
	elsewhere := api.Plan{Changes: []api.Change{{Endpoint: 3}}}
	for i, x := range []struct {
		e    api.Estate
		p    api.Plan
		d    api.Ledger
		gap  int
		f    api.Finding
		want api.Errno
	}{
		{wrong, elsewhere, many, -1, api.Finding{}, api.ErrEstate},
		{sample.Estate(), elsewhere, many, -1, api.Finding{}, api.ErrPlan},
		{sample.Estate(), api.Plan{Changes: []api.Change{{Endpoint: -1}}}, many, -1, api.Finding{}, api.ErrPlan},
		{sample.Estate(), api.Plan{Changes: make([]api.Change, 25)}, many, -1, api.Finding{}, api.ErrPlan},
		{sample.Estate(), api.Plan{Changes: make([]api.Change, 24)}, many, -1, api.Finding{}, api.ErrLimit},
		{sample.Estate(), plan(), api.Ledger{Decisions: many.Decisions[:128]}, -1, api.Finding{}, api.ErrFinding},
		{sample.Estate(), plan(), ledger(), -1, at("a", 0, 1), api.ErrRange},
	} {
		if got, g := reopen.Touch(x.e, x.p, x.d, nil, x.gap, x.f); g != x.want || !reflect.DeepEqual(got, api.Touched{}) {
			t.Errorf("%d: %v, %v", i, got, g)
		}
	}
}

func TestBehind(t *testing.T) { // P39.3
	p := plan()
	p.Required = []api.Required{r(0, 2), r(2, 1)}
	for _, x := range []struct{ s, want api.Set }{{api.Set{0}, api.Set{0, 1, 2}}, {api.Set{1, 3}, api.Set{1, 3}}, {api.Set{2}, api.Set{1, 2}}, {nil, nil}, {api.Set{0, 2, 3}, api.Set{0, 1, 2, 3}}} {
		if s, e := reopen.Behind(p, x.s); e != api.OK || !slices.Equal(s, x.want) {
			t.Errorf("%v: %v, %v", x.s, s, e)
		}
	}
	for i, x := range []struct {
		p    api.Plan
		s    api.Set
		want api.Errno
	}{
		{api.Plan{Changes: make([]api.Change, 25)}, api.Set{-1}, api.ErrPlan},
		{api.Plan{Changes: make([]api.Change, 2), Required: []api.Required{r(0, 1), r(1, 0)}}, api.Set{-1}, api.ErrPlan},
		{api.Plan{Changes: make([]api.Change, 2), Required: []api.Required{r(0, 2)}}, nil, api.ErrPlan},
		{p, api.Set{-1}, api.ErrSet}, {p, api.Set{4}, api.ErrSet}, {p, api.Set{1, 0}, api.ErrSet},
	} {
		if s, e := reopen.Behind(x.p, x.s); e != x.want || len(s) > 0 {
			t.Errorf("%d: %v, %v", i, s, e)
		}
	}
	x := rand.New(rand.NewSource(1))
	for range 200 { // what is left is closed
		n := 1 + x.Intn(6)
		p := api.Plan{Changes: make([]api.Change, n)}
		for i := range n {
			for k := i + 1; k < n; k++ {
				if x.Intn(3) == 0 {
					p.Required = append(p.Required, r(i, k))
				}
			}
		}
		s := api.Set{x.Intn(n)}
		behind, _ := reopen.Behind(p, s)
		var left api.Set
		for i := range n {
			if !slices.Contains(behind, i) {
				left = append(left, i)
			}
		}
		if ok, e := order.Closed(n, p.Required, left); !ok || e != api.OK {
			t.Fatalf("%v, %v: %v", p.Required, s, behind)
		}
	}
}

func TestUnion(t *testing.T) { // P39.3
	a := api.Touched{Endpoints: []int{1, 3}, Edges: []int{2}, Items: []int{5}, Changes: nil, Decisions: []int{1}}
	b := api.Touched{Endpoints: []int{0, 3, 4}, Edges: []int{1}, Items: nil, Changes: []int{7}, Decisions: []int{1}}
	want := api.Touched{Endpoints: []int{0, 1, 3, 4}, Edges: []int{1, 2}, Items: []int{5}, Changes: []int{7}, Decisions: []int{1}}
	if u := reopen.Union(a, b); !reopen.Same(u, want) || !reopen.Same(reopen.Union(b, a), want) || !reopen.Same(reopen.Union(want, want), want) || !reopen.Same(reopen.Union(reopen.Union(a, b), a), reopen.Union(a, reopen.Union(b, a))) {
		t.Errorf("%v", u)
	}
	for i, f := range []func(*api.Touched){func(t *api.Touched) { t.Endpoints = nil }, func(t *api.Touched) { t.Edges = nil }, func(t *api.Touched) { t.Items = nil }, func(t *api.Touched) { t.Changes = []int{8} }, func(t *api.Touched) { t.Decisions = []int{2} }} {
		x := want
		f(&x)
		if reopen.Same(x, want) || !reopen.Same(x, x) {
			t.Error(i)
		}
	}
	if !reopen.Same(api.Touched{}, api.Touched{Edges: []int{}}) {
		t.Error("empty")
	}
}

func TestUntouched(t *testing.T) { // consequence: entities without a host among Hosts have the same findings with and without the late one
	x := rand.New(rand.NewSource(2))
	for range 1000 {
		var l []api.Finding
		for range x.Intn(10) {
			l = append(l, at(string(rune('a'+x.Intn(3))), x.Intn(4), x.Intn(10)))
		}
		l = norm(t, l...)
		gap, f := x.Intn(4), at(string(rune('a'+x.Intn(4))), x.Intn(5), x.Intn(10))
		hosts, _ := reopen.Hosts(l, gap, f)
		more := norm(t, append(slices.Clone(l), f)...)
		before, _ := identity.Entities(l, gap)
		after, _ := identity.Entities(more, gap)
		for _, e := range before {
			apart := !slices.ContainsFunc(e.Hosts, func(h string) bool { return slices.Contains(hosts, h) })
			same := slices.ContainsFunc(after, func(g api.Entity) bool { return slices.Equal(pick(l, e), pick(more, g)) })
			if apart && !same {
				t.Fatalf("%v, %v: %v", l, f, e)
			}
		}
	}
}

// pick returns the findings of an entity.
func pick(l []api.Finding, e api.Entity) []api.Finding {
	var p []api.Finding
	for _, i := range e.Findings {
		p = append(p, l[i])
	}
	return p
}

func TestMemory(t *testing.T) { // R3
	l, e, p, d := norm(t, at("db", 5, 1)), sample.Estate(), plan(), ledger()
	a := api.Touched{Endpoints: []int{1}, Edges: []int{1}}
	apart(t, "Hosts", func() []string { h, _ := reopen.Hosts(l, 1, l[0]); return h }, l)
	apart(t, "Touch", func() api.Touched { x, _ := reopen.Touch(e, p, d, l, 1, l[0]); return x }, e, p, d, l)
	apart(t, "Behind", func() api.Set { s, _ := reopen.Behind(p, api.Set{0}); return s }, p)
	apart(t, "Union", func() api.Touched { return reopen.Union(a, api.Touched{}) }, a)
}
