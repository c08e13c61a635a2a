package downgrade_test

import (
	"cipherplan/api"
	"cipherplan/downgrade"
	"cipherplan/exception"
	"cipherplan/negotiate"
	"cipherplan/rule"
	"cipherplan/sample"
	"fmt"
	"math/rand"
	"slices"
	"testing"
)

func nothing(*api.Endpoint) {}

func client(f func(*api.Endpoint)) api.Endpoint {
	e := sample.Endpoint("app", 1, 10, 2)
	e.Fallback = true
	f(&e)
	return e
}

func server(f func(*api.Endpoint)) api.Endpoint {
	e := sample.Endpoint("web", 2, 10, 2)
	f(&e)
	return e
}

func policy(t *testing.T, text string) api.Policy {
	t.Helper()
	p, _, e := rule.Parse(text)
	if e != api.OK {
		t.Fatal(e)
	}
	return p
}

// text writes ways as version, suite, greatest version and suites.
func text(l []api.Way) string {
	s := ""
	for _, w := range l {
		s += fmt.Sprint(w.Outcome.Version, "/", w.Outcome.Suite, " ", w.Most, w.Suites, " ")
	}
	return s
}

func TestAll(t *testing.T) { // P21.1
	for name, x := range map[string]struct {
		c, s func(*api.Endpoint)
		weak int
		want string
	}{
		"example":         {nothing, nothing, 0, "1/2 1 [10 2] 2/2 2 [10 2] 3/10 3 [10 2] "},
		"weak":            {nothing, nothing, 100, "1/2 1 [10 2] 2/2 2 [10 2] 3/2 3 [2] 3/10 3 [10 2] "},
		"not weak enough": {nothing, nothing, 80, "1/2 1 [10 2] 2/2 2 [10 2] 3/10 3 [10 2] "},
		"just weak":       {nothing, nothing, 81, "1/2 1 [10 2] 2/2 2 [10 2] 3/2 3 [2] 3/10 3 [10 2] "},
		"no fallback":     {func(e *api.Endpoint) { e.Fallback = false }, nothing, 0, "3/10 3 [10 2] "},
		"altered":         {func(e *api.Endpoint) { e.Fallback = false }, nothing, 100, "1/2 1 [2] 2/2 2 [2] 3/2 3 [2] 3/10 3 [10 2] "},
		"an old server":   {nothing, func(e *api.Endpoint) { e.Most = 2 }, 100, "1/2 1 [10 2] 2/2 3 [10 2] "},
		"altered, old":    {func(e *api.Endpoint) { e.Fallback = false }, func(e *api.Endpoint) { e.Most, e.OwnOrder = 1, true }, 512, "1/2 3 [10 2] "},
		"all weak":        {func(e *api.Endpoint) { e.Fallback = false }, nothing, 512, "1/2 1 [2] 2/2 2 [2] 3/2 3 [2] 3/10 3 [10 2] "},
		"a bound":         {func(e *api.Endpoint) { e.Least = 2 }, nothing, 0, "2/2 2 [10 2] 3/10 3 [10 2] "},
		"nothing trusted": {func(e *api.Endpoint) { e.Anchors = nil }, nothing, 512, ""},
		"none but altered": {func(e *api.Endpoint) { e.Suites = []int{4, 2}; e.Fallback = false }, func(e *api.Endpoint) {
			e.Suites = []int{4, 2}
			e.Identities = append([]api.Identity{sample.Identity("web", api.Use{Alg: api.DSA, Bits: 1024}, 8, 5)}, e.Identities...)
		}, 100, "1/2 1 [2] 2/2 2 [2] 3/2 3 [2] "},
		"no common version": {func(e *api.Endpoint) { e.Most = 1 }, func(e *api.Endpoint) { e.Least = 2 }, 512, ""},
	} {
		l, e := downgrade.All(client(x.c), server(x.s), 100, x.weak)
		if e != api.OK || text(l) != x.want {
			t.Errorf("%s: %s, %v", name, text(l), e)
		}
		for v := range 5 {
			for s := range 17 {
				o := api.Outcome{Version: v, Suite: s}
				in := slices.ContainsFunc(l, func(w api.Way) bool { return w.Outcome == o })
				if ok, e := downgrade.Reaches(client(x.c), server(x.s), 100, x.weak, o); ok != in || e != api.OK {
					t.Errorf("%s: %v: %v, %v", name, o, ok, e)
				}
			}
		}
	}
}

func TestErrors(t *testing.T) { // P21.1 and P21.2
	wrong := func(e *api.Endpoint) { e.Most = 7 }
	bad := api.Policy{Rules: []api.Rule{{}}}
	for i, x := range []struct {
		c, s      func(*api.Endpoint)
		day, weak int
		want      api.Errno
	}{{wrong, nothing, -1, -1, api.ErrEndpoint}, {nothing, wrong, -1, -1, api.ErrEndpoint}, {nothing, nothing, -1, 0, api.ErrRange}, {nothing, nothing, api.MaxDay + 1, 0, api.ErrRange}, {nothing, nothing, 0, -1, api.ErrRange}, {nothing, nothing, 0, api.MaxStrength + 1, api.ErrRange}} {
		c, s := client(x.c), server(x.s)
		l, e := downgrade.All(c, s, x.day, x.weak)
		ok, f := downgrade.Reaches(c, s, x.day, x.weak, api.Outcome{})
		d, g := downgrade.Down(c, s, bad, nil, api.Owners{}, x.day, x.weak)
		if e != x.want || f != x.want || g != x.want || len(l)+len(d) > 0 || ok {
			t.Errorf("%d: %v, %v, %v", i, e, f, g)
		}
	}
	for _, day := range []int{0, api.MaxDay} {
		for _, weak := range []int{0, api.MaxStrength} {
			if l, e := downgrade.All(client(nothing), server(nothing), day, weak); e != api.OK || (len(l) > 0) != (day == 0) {
				t.Errorf("%d, %d: %v, %v", day, weak, l, e)
			}
		}
	}
	if d, e := downgrade.Down(client(nothing), server(nothing), bad, nil, api.Owners{}, 1, 1); e != api.ErrRule || len(d) > 0 {
		t.Errorf("%v, %v", d, e)
	}
	if d, e := downgrade.Down(client(nothing), server(nothing), api.Policy{}, make([]api.Exception, 1), api.Owners{}, 1, 1); e != api.ErrException || len(d) > 0 {
		t.Errorf("%v, %v", d, e)
	}
	if d, e := downgrade.Down(client(func(e *api.Endpoint) { e.Anchors = nil }), server(nothing), bad, nil, api.Owners{}, 1, 1); e != api.OK || len(d) > 0 {
		t.Errorf("without a way no rule is asked: %v, %v", d, e)
	}
	for i, x := range []struct {
		p     api.Policy
		s     func(*api.Endpoint)
		suite int
		day   int
		want  api.Errno
	}{{bad, wrong, 99, -1, api.ErrEndpoint}, {bad, nothing, 99, -1, api.ErrSuite}, {bad, nothing, 4, -1, api.ErrNone}, {bad, nothing, 10, -1, api.ErrRule}, {api.Policy{}, nothing, 10, -1, api.ErrRange}, {api.Policy{}, nothing, 10, 1, api.ErrException}} {
		if ok, e := downgrade.Forbidden(x.p, make([]api.Exception, 1), api.Owners{}, server(x.s), api.Outcome{Suite: x.suite}, x.day); ok || e != x.want {
			t.Errorf("%d: %v, %v", i, ok, e)
		}
	}
}

func TestForbidden(t *testing.T) { // P21.2
	x, _ := exception.Sign(api.Exception{Use: api.Use{Alg: api.RC4, Bits: 128}, Purpose: 1, Endpoint: "web", Days: api.Span{From: 10, To: 20}}, 7)
	o := api.Owners{Keys: []int{7}, Need: 1}
	for _, y := range []struct {
		text  string
		suite int
		day   int
		want  bool
	}{
		{"", 2, 5, false},
		{"forbid rc4", 2, 5, true},
		{"forbid rc4", 2, 10, false}, // permitted
		{"forbid rc4", 2, 20, true},
		{"forbid rc4", 10, 5, false},
		{"forbid rc4\nforbid rsakx", 2, 15, true}, // the other use is not
		{"forbid rsakx below 2049", 2, 5, true},
		{"forbid rsakx below 2048", 2, 5, false},
		{"forbid rsa", 10, 5, true},
		{"forbid aead", 10, 5, true},
		{"forbid any for sign", 2, 5, false},
		{"forbid any for transport from 6", 2, 5, false},
	} {
		if ok, e := downgrade.Forbidden(policy(t, y.text), []api.Exception{x}, o, server(nothing), api.Outcome{Version: 3, Suite: y.suite}, y.day); ok != y.want || e != api.OK {
			t.Errorf("%v: %v, %v", y, ok, e)
		}
	}
	other := server(func(e *api.Endpoint) { e.Name = "other" })
	if ok, e := downgrade.Forbidden(policy(t, "forbid rc4"), []api.Exception{x}, o, other, api.Outcome{Suite: 2}, 15); !ok || e != api.OK {
		t.Errorf("%v, %v", ok, e)
	}
	d, e := downgrade.Down(client(nothing), server(nothing), policy(t, "forbid rc4"), nil, o, 100, 100)
	if e != api.OK || text(d) != "1/2 1 [10 2] 2/2 2 [10 2] 3/2 3 [2] " {
		t.Errorf("%s, %v", text(d), e)
	}
	if d, e := downgrade.Down(client(nothing), server(nothing), policy(t, "forbid rc4"), []api.Exception{x}, o, 15, 100); e != api.OK || len(d) > 0 {
		t.Errorf("%s, %v", text(d), e)
	}
}

func TestConsequences(t *testing.T) {
	r := rand.New(rand.NewSource(1))
	for range 300 {
		c, s := client(nothing), server(nothing)
		for _, e := range []*api.Endpoint{&c, &s} {
			e.Suites = slices.DeleteFunc(r.Perm(14)[:7], func(s int) bool { return s == 0 })
			e.Least = 1 + r.Intn(3)
			e.Most = e.Least + r.Intn(4-e.Least)
			e.Fallback, e.OwnOrder = r.Intn(2) == 0, r.Intn(2) == 0
		}
		weak := r.Intn(2) * r.Intn(300)
		l, _ := downgrade.All(c, s, 100, weak)
		o, e := negotiate.Choose(c, s, 100)
		chosen := slices.ContainsFunc(l, func(w api.Way) bool { return w.Outcome == o })
		if chosen != (e == api.OK) || !c.Fallback && weak == 0 && len(l) > 1 {
			t.Fatalf("%v, %v: %s", o, e, text(l))
		}
		common := negotiate.Common(c, s)
		for _, w := range l {
			again, e := negotiate.With(c, s, 100, w.Most, w.Suites)
			if !slices.Contains(common, w.Outcome) || again != w.Outcome || e != api.OK {
				t.Fatalf("%v does not come about: %v", w, e)
			}
		}
		if d, _ := downgrade.Down(c, s, api.Policy{}, nil, api.Owners{}, 100, weak); len(d) > 0 {
			t.Fatalf("%v", d)
		}
	}
}

func TestMemory(t *testing.T) { // R3
	c, s := client(nothing), server(nothing)
	apart(t, "All", func() []api.Way { l, _ := downgrade.All(c, s, 1, 100); return l }, c, s)
	p := policy(t, "forbid rc4")
	apart(t, "Down", func() []api.Way { l, _ := downgrade.Down(c, s, p, nil, api.Owners{}, 1, 100); return l }, c, s, p)
}
