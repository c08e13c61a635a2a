package policy_test

import (
	"cipherplan/api"
	"cipherplan/downgrade"
	"cipherplan/estate"
	"cipherplan/exception"
	"cipherplan/negotiate"
	"cipherplan/policy"
	"cipherplan/rule"
	"cipherplan/sample"
	"math/rand"
	"slices"
	"testing"
)

func parsed(t *testing.T, text string) api.Policy {
	t.Helper()
	p, _, e := rule.Parse(text)
	if e != api.OK {
		t.Fatal(e)
	}
	return p
}

func with(f func(*api.Estate)) api.Estate {
	e := sample.Estate()
	f(&e)
	return e
}

func nothing(*api.Estate) {}

func wrong(e *api.Estate) { e.Endpoints[0].Most = 9 }

func out(version, suite int) api.Outcome { return api.Outcome{Version: version, Suite: suite} }

// low returns what app and db can come to with suite 8 or 2, below version 4.
func low() []api.Outcome { return []api.Outcome{out(1, 2), out(2, 2), out(3, 2)} }

func TestOpen(t *testing.T) { // P27.1
	x, _ := exception.Sign(api.Exception{Use: api.Use{Alg: api.RC4, Bits: 128}, Purpose: 1, Endpoint: "db", Days: api.Span{From: 10, To: 20}}, 7)
	owners := api.Owners{Keys: []int{7}, Need: 1}
	for _, y := range []struct {
		text      string
		edge, day int
		want      []api.Outcome
	}{
		{"forbid rc4 from 5", 0, 5, low()},
		{"forbid rc4 from 5", 0, 4, nil},
		{"forbid rc4 from 5", 0, 10, nil},
		{"forbid rc4 from 5", 1, 10, low()},
		{"forbid rc4 from 5", 0, 20, low()},
		{"forbid aesgcm", 0, 5, []api.Outcome{out(3, 10)}},
		{"", 0, 5, nil},
		{"forbid any for sign", 0, 5, nil},
	} {
		if l, e := policy.Open(sample.Estate(), parsed(t, y.text), []api.Exception{x}, owners, y.edge, y.day); e != api.OK || !slices.Equal(l, y.want) {
			t.Errorf("%v: %v, %v", y, l, e)
		}
	}
	for _, day := range []int{0, api.MaxDay} {
		if l, e := policy.Open(sample.Estate(), parsed(t, "forbid rc4"), nil, api.Owners{}, 0, day); e != api.OK || !slices.Equal(l, low()) {
			t.Errorf("%d: %v, %v", day, l, e)
		}
	}
	untrusted := with(func(e *api.Estate) { e.Endpoints[0].Anchors = nil })
	if l, e := policy.Open(untrusted, parsed(t, "forbid rc4"), nil, owners, 0, 5); e != api.OK || !slices.Equal(l, low()) {
		t.Errorf("trust is not asked: %v, %v", l, e)
	}
}

func TestEnables(t *testing.T) { // P27.2
	other := func(e *api.Estate) { // another key for the same outcomes
		e.Endpoints[1].Identities[0] = sample.Identity("db", api.Use{Alg: api.RSA, Bits: 4096}, 9, sample.Anchor)
	}
	renewed := func(e *api.Estate) {
		e.Endpoints[1].Identities[0] = sample.Identity("db", sample.RSA(), 9, sample.Anchor)
	}
	all := []api.Outcome{out(1, 2), out(1, 8), out(2, 2), out(2, 8), out(3, 2), out(3, 8), out(3, 10)}
	for name, x := range map[string]struct {
		before, after func(*api.Estate)
		edge          int
		want          []api.Outcome
	}{
		"nothing":       {nothing, nothing, 0, nil},
		"less":          {nothing, func(e *api.Estate) { e.Endpoints[1].Suites = nil }, 0, nil},
		"more":          {func(e *api.Estate) { e.Endpoints[1].Suites = []int{8, 10} }, nothing, 0, low()},
		"at one end":    {nothing, func(e *api.Estate) { e.Endpoints[1].Suites = []int{8, 10, 2, 6} }, 0, nil},
		"versions":      {func(e *api.Estate) { e.Endpoints[0].Least = 3 }, nothing, 0, []api.Outcome{out(1, 2), out(1, 8), out(2, 2), out(2, 8)}},
		"another key":   {nothing, other, 0, all},
		"another edge":  {nothing, other, 1, nil},
		"a renewed key": {nothing, renewed, 0, nil},
		"an order":      {nothing, func(e *api.Estate) { e.Endpoints[1].OwnOrder = true }, 0, nil},
	} {
		if l, e := policy.Enables(with(x.before), with(x.after), x.edge); e != api.OK || !slices.Equal(l, x.want) {
			t.Errorf("%s: %v, %v", name, l, e)
		}
	}
}

func TestSteps(t *testing.T) { // P27.3
	less := with(func(e *api.Estate) { e.Endpoints[1].Suites = []int{8, 10} })
	both := with(func(e *api.Estate) { e.Endpoints[0].Suites, e.Endpoints[1].Suites = []int{10}, []int{8, 10} })
	p := parsed(t, "forbid rc4 from 10")
	for name, x := range map[string]struct {
		before, after api.Estate
		day           int
		want          []int
	}{
		"forbidden":       {less, sample.Estate(), 10, []int{0, 2}},
		"not yet":         {less, sample.Estate(), 9, nil},
		"back":            {sample.Estate(), less, 10, nil},
		"at another end":  {both, less, 10, []int{1}},
		"at the other":    {both, sample.Estate(), 10, []int{0, 1, 2}},
		"nothing":         {sample.Estate(), sample.Estate(), 10, nil},
		"something right": {both, with(func(e *api.Estate) { e.Endpoints[0].Suites, e.Endpoints[1].Suites = []int{10, 8}, []int{8, 10} }), 10, nil},
	} {
		if l, e := policy.Step(x.before, x.after, p, nil, api.Owners{}, x.day); e != api.OK || !slices.Equal(l, x.want) {
			t.Errorf("%s: %v, %v", name, l, e)
		}
	}
	if l, e := policy.Clean(less, p, nil, api.Owners{}, 10); e != api.OK || !slices.Equal(l, []int{0, 2}) {
		t.Errorf("%v, %v", l, e)
	}
	if l, e := policy.Clean(less, p, nil, api.Owners{}, 9); e != api.OK || !slices.Equal(l, []int{0, 1, 2}) {
		t.Errorf("%v, %v", l, e)
	}
	if n, m, e := policy.Progress(sample.Estate(), less, p, nil, api.Owners{}, 10); e != api.OK || n != 9 || m != 3 {
		t.Errorf("%d, %d, %v", n, m, e)
	}
	if n, m, e := policy.Progress(both, less, p, nil, api.Owners{}, 10); e != api.OK || n != 0 || m != 3 {
		t.Errorf("%d, %d, %v", n, m, e)
	}
}

func TestErrors(t *testing.T) { // P27.1 to P27.3
	bad, none := api.Policy{Rules: []api.Rule{{}}}, make([]api.Exception, 1)
	fewer := func(e *api.Estate) { e.Edges = e.Edges[:2] }
	for i, x := range []struct {
		before, after func(*api.Estate)
		p             api.Policy
		l             []api.Exception
		day           int
		want          api.Errno
	}{
		{wrong, fewer, bad, none, -1, api.ErrEstate},
		{fewer, wrong, bad, none, -1, api.ErrEstate},
		{fewer, nothing, bad, none, -1, api.ErrEdge},
		{nothing, nothing, bad, none, -1, api.ErrRule},
		{nothing, nothing, api.Policy{}, none, -1, api.ErrException},
		{nothing, nothing, api.Policy{}, nil, -1, api.ErrRange},
		{nothing, nothing, api.Policy{}, nil, api.MaxDay + 1, api.ErrRange},
	} {
		b, a := with(x.before), with(x.after)
		l, e := policy.Step(b, a, x.p, x.l, api.Owners{}, x.day)
		n, m, f := policy.Progress(b, a, x.p, x.l, api.Owners{}, x.day)
		if e != x.want || f != x.want || len(l)+n+m != 0 {
			t.Errorf("%d: %v, %v", i, e, f)
		}
		if i == 1 || i == 2 {
			continue
		}
		o, e := policy.Open(b, x.p, x.l, api.Owners{}, 9, x.day)
		c, f := policy.Clean(b, x.p, x.l, api.Owners{}, x.day)
		if e != x.want || f != x.want || len(o)+len(c) != 0 {
			t.Errorf("%d: %v, %v", i, e, f)
		}
	}
	for _, edge := range []int{-1, 3} {
		if _, e := policy.Open(sample.Estate(), api.Policy{}, nil, api.Owners{}, edge, 1); e != api.ErrNone {
			t.Error(e)
		}
		if _, e := policy.Enables(sample.Estate(), sample.Estate(), edge); e != api.ErrNone {
			t.Error(e)
		}
	}
	for name, x := range map[string][2]func(*api.Estate){"before": {wrong, fewer}, "after": {fewer, wrong}} {
		if _, e := policy.Enables(with(x[0]), with(x[1]), 9); e != api.ErrEstate {
			t.Errorf("%s: %v", name, e)
		}
	}
	if _, e := policy.Enables(with(fewer), sample.Estate(), 9); e != api.ErrEdge {
		t.Error(e)
	}
}

// TestConsequences checks at random: what only drops enables nothing; if no edge is named, nothing is open that was not possible with the same uses; clean edges have no way down.
func TestConsequences(t *testing.T) {
	r := rand.New(rand.NewSource(1))
	p := parsed(t, "forbid rc4\nforbid aescbc")
	for range 300 {
		e := with(func(e *api.Estate) {
			for i := range e.Endpoints {
				e.Endpoints[i].Suites = slices.DeleteFunc(r.Perm(14)[:6], func(s int) bool { return s == 0 })
				e.Endpoints[i].Fallback = true
			}
		})
		kind := []int{api.DropSuite, api.DropHash, api.AddSuite}[r.Intn(3)]
		after, f := estate.Apply(e, api.Change{Endpoint: r.Intn(3), Kind: kind, Number: 1 + r.Intn(13)})
		if f != api.OK {
			continue
		}
		named, _ := policy.Step(e, after, p, nil, api.Owners{}, 5)
		if kind != api.AddSuite && len(named) > 0 {
			t.Fatalf("%d enables something", kind)
		}
		clean, _ := policy.Clean(after, p, nil, api.Owners{}, 5)
		for i, x := range after.Edges {
			open, _ := policy.Open(after, p, nil, api.Owners{}, i, 5)
			more, _ := policy.Enables(e, after, i)
			bad := slices.ContainsFunc(more, func(o api.Outcome) bool { return slices.Contains(open, o) })
			if bad != slices.Contains(named, i) || (len(open) == 0) != slices.Contains(clean, i) {
				t.Fatalf("%d: %v, %v", i, named, clean)
			}
			c, s := after.Endpoints[x.Client], after.Endpoints[x.Server]
			if down, _ := downgrade.Down(c, s, p, nil, api.Owners{}, 5, 100); len(open) == 0 && len(down) > 0 {
				t.Fatalf("%v", down)
			}
			if l := negotiate.Common(c, s); len(l) < len(open) {
				t.Fatalf("%v", open)
			}
		}
	}
}

func TestMemory(t *testing.T) { // R3
	a, b, p := sample.Estate(), with(func(e *api.Estate) { e.Endpoints[1].Suites = nil }), parsed(t, "forbid any")
	apart(t, "Open", func() []api.Outcome { l, _ := policy.Open(a, p, nil, api.Owners{}, 0, 1); return l }, a, p)
	apart(t, "Enables", func() []api.Outcome { l, _ := policy.Enables(b, a, 0); return l }, a, b)
	apart(t, "Step", func() []int { l, _ := policy.Step(b, a, p, nil, api.Owners{}, 0); return l }, a, b, p)
}
