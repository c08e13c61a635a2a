package watch_test

import (
	"cipherplan/api"
	"cipherplan/finding"
	"cipherplan/sample"
	"cipherplan/watch"
	"math/rand"
	"slices"
	"testing"
)

// find returns a finding about a host.
func find(host string, day, kind int, u api.Use, number int) api.Finding {
	return api.Finding{Source: 6, Host: host, Day: day, Confidence: 50, Kind: kind, Subject: "tls", Use: u, Number: number}
}

func none() api.Use { return api.Use{} }

func TestContradicts(t *testing.T) { // P38.1
	e := sample.Endpoint("web", 3, 10, 2)
	for _, x := range []struct {
		kind   int
		u      api.Use
		number int
		want   bool
	}{
		{api.FindSuite, none(), 10, false}, {api.FindSuite, none(), 8, true}, {api.FindSuite, none(), 999, true},
		{api.FindKey, sample.RSA(), 3, false}, {api.FindKey, sample.RSA(), 4, true}, {api.FindKey, api.Use{Alg: api.RSA, Bits: 4096}, 3, true},
		{api.FindMost, none(), 3, false}, {api.FindMost, none(), 2, true}, {api.FindLeast, none(), 1, false}, {api.FindLeast, none(), 3, true},
		{api.FindTrust, none(), sample.Anchor, false}, {api.FindTrust, none(), 5, true},
		{api.FindUse, api.Use{Alg: api.MD5}, 0, false}, {api.FindOff, sample.RSA(), 0, false}, {api.FindPeer, none(), 0, false}, {0, none(), 1, false}, {99, none(), 1, false},
	} {
		f := find("web", 1, x.kind, x.u, x.number)
		if watch.Contradicts(e, f) != x.want {
			t.Errorf("%v", x)
		}
		f.Host = "app"
		if watch.Contradicts(e, f) {
			t.Errorf("%v: of another host", x)
		}
	}
}

func TestAll(t *testing.T) { // P38.1
	l := []api.Finding{find("web", 5, api.FindSuite, none(), 8), find("db", 5, api.FindSuite, none(), 8), find("web", 6, api.FindSuite, none(), 8), find("x", 5, api.FindSuite, none(), 8), find("app", 5, api.FindMost, none(), 4), find("app", 5, api.FindUse, sample.RSA(), 0)}
	if i, e := watch.All(sample.Estate(), l, 5); e != api.OK || !slices.Equal(i, []int{0, 4}) {
		t.Errorf("%v, %v", i, e)
	}
	if i, e := watch.All(sample.Estate(), l, 7); e != api.OK || len(i) > 0 {
		t.Errorf("%v, %v", i, e)
	}
	for _, day := range []int{0, api.MaxDay} {
		if i, e := watch.All(sample.Estate(), []api.Finding{find("web", day, api.FindSuite, none(), 8)}, day); e != api.OK || len(i) != 1 {
			t.Errorf("%d: %v, %v", day, i, e)
		}
	}
	wrong := sample.Estate()
	wrong.Endpoints[0].Most = 9
	for _, x := range []struct {
		e    api.Estate
		day  int
		want api.Errno
	}{{wrong, -1, api.ErrEstate}, {sample.Estate(), -1, api.ErrRange}, {sample.Estate(), api.MaxDay + 1, api.ErrRange}} {
		if i, e := watch.All(x.e, l, x.day); e != x.want || len(i) > 0 {
			t.Errorf("%v, %v", i, e)
		}
	}
}

func TestMissing(t *testing.T) { // P38.2
	e, at := sample.Endpoint("web", 3, 10, 2), find("web", 5, 0, none(), 0)
	want, _ := finding.FromEndpoint(at, e)
	l, f := watch.Expected(e, at)
	if f != api.OK || !slices.Equal(l, want) || len(l) != 8 {
		t.Fatalf("%v, %v", l, f)
	}
	other := slices.Clone(l) // of other sources, machines and subjects, and less sure
	for i := range other {
		other[i].Source, other[i].Machine, other[i].Confidence, other[i].Subject = 1, 9, 1, "x"
	}
	if m, f := watch.Missing(e, at, other); f != api.OK || len(m) > 0 {
		t.Errorf("%v, %v", m, f)
	}
	for name, change := range map[string]func(*api.Finding){
		"host":   func(f *api.Finding) { f.Host = "x" },
		"day":    func(f *api.Finding) { f.Day++ },
		"kind":   func(f *api.Finding) { f.Kind = 99 },
		"use":    func(f *api.Finding) { f.Use.Bits++ },
		"number": func(f *api.Finding) { f.Number = 99 },
		"text":   func(f *api.Finding) { f.Text = "x" },
	} {
		some := slices.Clone(l)
		change(&some[2])
		change(&some[5])
		if m, f := watch.Missing(e, at, some); f != api.OK || !slices.Equal(m, []api.Finding{l[2], l[5]}) {
			t.Errorf("%s: %v, %v", name, m, f)
		}
		if ok, f := watch.Agrees(e, at, some); f != api.OK || ok {
			t.Errorf("%s: %v, %v", name, ok, f)
		}
	}
	if m, f := watch.Missing(e, at, nil); f != api.OK || !slices.Equal(m, l) {
		t.Errorf("%v, %v", m, f)
	}
}

func TestAgrees(t *testing.T) { // P38.2
	e, at := sample.Endpoint("web", 3, 10, 2), find("web", 5, 0, none(), 0)
	l, _ := watch.Expected(e, at)
	for name, x := range map[string]struct {
		more api.Finding
		want bool
	}{
		"nothing else":      {l[0], true},
		"something wrong":   {find("web", 5, api.FindSuite, none(), 8), false},
		"on another day":    {find("web", 6, api.FindSuite, none(), 8), true},
		"of another host":   {find("app", 5, api.FindSuite, none(), 8), true},
		"a use that is not": {find("web", 5, api.FindUse, api.Use{Alg: api.MD5}, 0), true},
	} {
		if ok, f := watch.Agrees(e, at, append(slices.Clone(l), x.more)); f != api.OK || ok != x.want {
			t.Errorf("%s: %v, %v", name, ok, f)
		}
	}
	for _, x := range []struct {
		e    api.Endpoint
		at   api.Finding
		want api.Errno
	}{{api.Endpoint{}, api.Finding{}, api.ErrFinding}, {api.Endpoint{}, at, api.ErrEndpoint}} {
		a, f1 := watch.Expected(x.e, x.at)
		b, f2 := watch.Missing(x.e, x.at, l)
		ok, f3 := watch.Agrees(x.e, x.at, l)
		if f1 != x.want || f2 != x.want || f3 != x.want || len(a)+len(b) > 0 || ok {
			t.Errorf("%v, %v, %v", f1, f2, f3)
		}
	}
}

func TestConsequences(t *testing.T) { // what is expected of an endpoint agrees with it, and not with another one of its name
	r := rand.New(rand.NewSource(1))
	random := func() api.Endpoint {
		e := sample.Endpoint("web", 1+r.Intn(2), r.Perm(4)[:r.Intn(4)]...)
		e.Suites = slices.DeleteFunc(e.Suites, func(s int) bool { return s == 0 })
		e.Least, e.Most = 1+r.Intn(2), 2+r.Intn(2)
		e.Anchors = e.Anchors[:r.Intn(2)]
		return e
	}
	at := find("web", 5, 0, none(), 0)
	for range 500 {
		a, b := random(), random()
		l, _ := watch.Expected(a, at)
		if ok, f := watch.Agrees(a, at, l); !ok || f != api.OK {
			t.Fatalf("%v: %v", a, f)
		}
		x, y := slices.Clone(a.Suites), slices.Clone(b.Suites)
		slices.Sort(x)
		slices.Sort(y)
		same := slices.Equal(x, y) && a.Identities[0].KeyId == b.Identities[0].KeyId && slices.Equal(a.Anchors, b.Anchors) && a.Least == b.Least && a.Most == b.Most
		if ok, _ := watch.Agrees(b, at, l); ok != same {
			t.Fatalf("%v, %v: %v", a, b, ok)
		}
	}
}

func TestMemory(t *testing.T) { // R3
	e, at := sample.Endpoint("web", 3, 10, 2), find("web", 5, 0, none(), 0)
	l, _ := watch.Expected(e, at)
	s := sample.Estate()
	apart(t, "Expected", func() []api.Finding { x, _ := watch.Expected(e, at); return x }, e)
	apart(t, "Missing", func() []api.Finding { x, _ := watch.Missing(e, at, l[:3]); return x }, e, l)
	apart(t, "All", func() []int { x, _ := watch.All(s, l, 5); return x }, s, l)
}
