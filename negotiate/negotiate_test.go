package negotiate_test

import (
	"cipherplan/api"
	"cipherplan/catalog"
	"cipherplan/negotiate"
	"cipherplan/sample"
	"math/rand"
	"slices"
	"testing"
)

func nothing(*api.Endpoint) {}

func client(f func(*api.Endpoint)) api.Endpoint {
	e := sample.Endpoint("app", 1, 10, 8)
	f(&e)
	return e
}

func server(f func(*api.Endpoint)) api.Endpoint {
	e := sample.Endpoint("web", 2, 8, 10)
	f(&e)
	return e
}

func out(version, suite int) api.Outcome { return api.Outcome{Version: version, Suite: suite} }

func own(e *api.Endpoint) { e.OwnOrder = true }

func TestChoose(t *testing.T) { // P20.1
	ed := api.Use{Alg: api.ED25519}
	for name, x := range map[string]struct {
		c, s func(*api.Endpoint)
		want api.Outcome
		e    api.Errno
	}{
		"the client's order": {nothing, nothing, out(3, 10), api.OK},
		"the server's order": {nothing, own, out(3, 8), api.OK},
		"the client's own":   {own, nothing, out(3, 10), api.OK},
		"a lesser version":   {nothing, func(e *api.Endpoint) { e.Most = 2 }, out(2, 8), api.OK},
		"the client's most":  {func(e *api.Endpoint) { e.Most = 1 }, nothing, out(1, 8), api.OK},
		"too old a server":   {func(e *api.Endpoint) { e.Least = 3 }, func(e *api.Endpoint) { e.Most = 2 }, out(0, 0), api.ErrNoVersion},
		"too old a client":   {func(e *api.Endpoint) { e.Most = 2 }, func(e *api.Endpoint) { e.Least = 3 }, out(0, 0), api.ErrNoVersion},
		"no common suite":    {func(e *api.Endpoint) { e.Suites = []int{1, 2} }, nothing, out(0, 0), api.ErrNoSuite},
		"none at version":    {func(e *api.Endpoint) { e.Suites = []int{10}; e.Most = 2 }, nothing, out(0, 0), api.ErrNoSuite},
		"no suites":          {func(e *api.Endpoint) { e.Suites = nil }, nothing, out(0, 0), api.ErrNoSuite},
		"no identity":        {nothing, func(e *api.Endpoint) { e.Identities = nil }, out(0, 0), api.ErrNoSuite},
		"another key":        {nothing, func(e *api.Endpoint) { e.Identities = []api.Identity{sample.Identity("web", ed, 5, sample.Anchor)} }, out(0, 0), api.ErrNoSuite},
		"any key": {func(e *api.Endpoint) { e.Most = 4; e.Suites = []int{16, 14} }, func(e *api.Endpoint) {
			e.Most, e.Suites = 4, []int{14, 16}
			e.Identities = []api.Identity{sample.Identity("web", ed, 5, sample.Anchor)}
		}, out(4, 16), api.OK},
		"no anchor":        {func(e *api.Endpoint) { e.Anchors = nil }, nothing, out(0, 0), api.ErrTrust},
		"no hash":          {func(e *api.Endpoint) { e.Hashes = nil }, nothing, out(0, 0), api.ErrTrust},
		"another name":     {nothing, func(e *api.Endpoint) { e.Name = "other" }, out(0, 0), api.ErrTrust},
		"no chain":         {nothing, func(e *api.Endpoint) { e.Identities[0].Chain = nil }, out(0, 0), api.ErrTrust},
		"client not valid": {func(e *api.Endpoint) { e.Name = "" }, nothing, out(0, 0), api.ErrEndpoint},
		"server not valid": {nothing, func(e *api.Endpoint) { e.Suites = []int{99} }, out(0, 0), api.ErrEndpoint},
	} {
		if o, e := negotiate.Choose(client(x.c), server(x.s), 100); o != x.want || e != x.e {
			t.Errorf("%s: %v, %v", name, o, e)
		}
	}
}

func TestFirstIdentity(t *testing.T) { // P20.1 and P20.2: the first identity with the key's algorithm counts
	two := func(e *api.Endpoint) {
		e.Identities = []api.Identity{sample.Identity("web", api.Use{Alg: api.ECDSA, Bits: 256}, 5, sample.Anchor), sample.Identity("web", sample.RSA(), 6, 77), sample.Identity("web", sample.RSA(), 7, sample.Anchor)}
		e.Suites, e.Most = []int{8, 9, 10, 14}, 4
	}
	if _, e := negotiate.Choose(client(nothing), server(two), 100); e != api.ErrTrust {
		t.Error(e) // the second one is not tried
	}
	for suite, want := range map[int]int{8: 1, 9: 0, 14: 0, 4: -1, 0: -1, 17: -1, -1: -1} {
		if i, ok := negotiate.Identity(server(two), suite); i != want || ok != (want >= 0) {
			t.Errorf("%d: %d, %v", suite, i, ok)
		}
	}
	if i, ok := negotiate.Identity(api.Endpoint{}, 14); i != -1 || ok {
		t.Errorf("%d, %v", i, ok)
	}
}

func TestWith(t *testing.T) { // P20.1
	for _, x := range []struct {
		day, most int
		suites    []int
		want      api.Outcome
		e         api.Errno
	}{
		{100, 3, []int{8, 10}, out(3, 8), api.OK},
		{100, 4, []int{99, -1, 10, 8}, out(3, 10), api.OK},
		{100, 2, []int{10, 8}, out(2, 8), api.OK},
		{100, 3, []int{2}, out(0, 0), api.ErrNoSuite},
		{100, 3, nil, out(0, 0), api.ErrNoSuite},
		{0, 3, []int{8}, out(3, 8), api.OK},
		{sample.Last - 1, 3, []int{8}, out(3, 8), api.OK},
		{sample.Last, 3, []int{8}, out(0, 0), api.ErrTrust},
		{sample.Last, 3, []int{2}, out(0, 0), api.ErrNoSuite},
		{api.MaxDay, 3, []int{8}, out(0, 0), api.ErrTrust},
		{-1, 3, []int{8}, out(0, 0), api.ErrRange},
		{api.MaxDay + 1, 3, nil, out(0, 0), api.ErrRange},
		{100, 0, []int{8}, out(0, 0), api.ErrRange},
		{100, 5, []int{8}, out(0, 0), api.ErrRange},
	} {
		if o, e := negotiate.With(client(nothing), server(nothing), x.day, x.most, x.suites); o != x.want || e != x.e {
			t.Errorf("%v: %v, %v", x, o, e)
		}
	}
	if _, e := negotiate.With(client(func(e *api.Endpoint) { e.Most = 9 }), server(nothing), -1, 9, nil); e != api.ErrEndpoint {
		t.Error(e)
	}
	if _, e := negotiate.With(client(func(e *api.Endpoint) { e.Least = 2 }), server(nothing), 5, 1, nil); e != api.ErrNoVersion {
		t.Error(e)
	}
}

func TestUses(t *testing.T) { // P20.2
	for suite, want := range map[int][]api.Use{
		6:  {{Alg: api.RSAKX, Bits: 2048}, sample.RSA(), {Alg: api.AESCBC, Bits: 128}, {Alg: api.HMACSHA1}},
		10: {{Alg: api.ECDHE, Bits: 256}, sample.RSA(), {Alg: api.AESGCM, Bits: 128}, {Alg: api.AEAD}},
		16: {{Alg: api.MLKEM, Bits: 768}, sample.RSA(), {Alg: api.AESGCM, Bits: 256}, {Alg: api.AEAD}},
	} {
		l, e := negotiate.Uses(server(nothing), out(99, suite))
		if e != api.OK || !slices.Equal(l, want) || slices.ContainsFunc(l, func(u api.Use) bool { return !catalog.Valid(u) }) {
			t.Errorf("%d: %v, %v", suite, l, e)
		}
	}
	for _, x := range []struct {
		f     func(*api.Endpoint)
		suite int
		want  api.Errno
	}{{func(e *api.Endpoint) { e.Most = 9 }, 99, api.ErrEndpoint}, {nothing, 99, api.ErrSuite}, {nothing, 0, api.ErrSuite}, {nothing, 4, api.ErrNone}, {func(e *api.Endpoint) { e.Identities = nil }, 14, api.ErrNone}} {
		if l, e := negotiate.Uses(server(x.f), out(3, x.suite)); e != x.want || len(l) > 0 {
			t.Errorf("%d: %v, %v", x.suite, l, e)
		}
	}
}

func TestCommon(t *testing.T) { // P20.3
	c := client(func(e *api.Endpoint) { e.Most, e.Least, e.Suites = 4, 2, []int{15, 10, 2, 8, 4} })
	s := server(func(e *api.Endpoint) { e.Most, e.Suites = 4, []int{4, 2, 8, 15, 16} })
	for _, most := range [][2]int{{2, 3}, {3, 2}} {
		x, y := client(func(e *api.Endpoint) { e.Most = most[0] }), server(func(e *api.Endpoint) { e.Most = most[1] })
		if l := negotiate.Common(x, y); !slices.Equal(l, []api.Outcome{out(1, 8), out(2, 8)}) {
			t.Errorf("%v: %v", most, l)
		}
	}
	if l := negotiate.Common(c, s); !slices.Equal(l, []api.Outcome{out(2, 2), out(2, 8), out(3, 2), out(3, 8), out(4, 15)}) {
		t.Error(l)
	}
	if l := negotiate.Common(client(func(e *api.Endpoint) { e.Name = "" }), s); len(l) > 0 {
		t.Error(l)
	}
	if l := negotiate.Common(c, server(func(e *api.Endpoint) { e.Name = "" })); len(l) > 0 {
		t.Error(l)
	}
	if l := negotiate.Common(client(func(e *api.Endpoint) { e.Least, e.Most = 4, 4 }), server(nothing)); len(l) > 0 {
		t.Error(l)
	}
}

// random returns an endpoint with some suites and keys.
func random(r *rand.Rand, name string) api.Endpoint {
	e := sample.Endpoint(name, 1, r.Perm(17)[:r.Intn(8)]...)
	e.Suites = slices.DeleteFunc(e.Suites, func(s int) bool { return s == 0 })
	e.Least = 1 + r.Intn(4)
	e.Most = e.Least + r.Intn(5-e.Least)
	e.OwnOrder = r.Intn(2) == 0
	if r.Intn(2) == 0 {
		e.Identities = append(e.Identities, sample.Identity(name, api.Use{Alg: api.ECDSA, Bits: 256}, 9, sample.Anchor))
	}
	return e
}

func TestOutcomes(t *testing.T) { // consequences
	r := rand.New(rand.NewSource(1))
	came := 0
	for range 1000 {
		c, s := random(r, "app"), random(r, "web")
		o, e := negotiate.Choose(c, s, 100)
		common := negotiate.Common(c, s)
		if e != api.OK {
			if o != (api.Outcome{}) {
				t.Fatalf("%v, %v", o, e)
			}
			continue
		}
		came++
		if !slices.Contains(common, o) {
			t.Fatalf("%v is not in %v", o, common)
		}
		l := slices.Clone(c.Suites)
		slices.Reverse(l)
		if again, _ := negotiate.With(c, s, 100, c.Most, l); s.OwnOrder && again != o {
			t.Fatalf("the order of the offer matters: %v, %v", o, again)
		}
		c.Suites = append(slices.DeleteFunc([]int{1, 6, 8, 14}, func(x int) bool { return slices.Contains(c.Suites, x) }), c.Suites...)
		if _, e := negotiate.Choose(c, s, 100); e != api.OK {
			t.Fatalf("more suites: %v", e)
		}
	}
	if came < 100 {
		t.Errorf("%d outcomes", came)
	}
}

func TestMemory(t *testing.T) { // R3
	c, s := client(nothing), server(nothing)
	apart(t, "Common", func() []api.Outcome { return negotiate.Common(c, s) }, c, s)
	apart(t, "Uses", func() []api.Use { u, _ := negotiate.Uses(s, out(3, 10)); return u }, s)
}
