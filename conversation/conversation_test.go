package conversation_test

import (
	"cipherplan/api"
	"cipherplan/chain"
	"cipherplan/conversation"
	"cipherplan/negotiate"
	"cipherplan/sample"
	"math/rand"
	"slices"
	"testing"
)

func with(f func(*api.Estate)) api.Estate {
	e := sample.Estate()
	f(&e)
	return e
}

func nothing(*api.Estate) {}

func wrong(e *api.Estate) { e.Endpoints[0].Most = 9 }

func out(version, suite int) api.Outcome { return api.Outcome{Version: version, Suite: suite} }

// until ends the certificate of an endpoint on a day.
func until(endpoint, day int) func(*api.Estate) {
	return func(e *api.Estate) {
		c := &e.Endpoints[endpoint].Identities[0].Chain[0]
		c.To = day
		*c = sample.Sealed(*c, c.Seal.Key)
	}
}

func TestWorks(t *testing.T) { // P26.1
	for _, x := range []struct {
		f         func(*api.Estate)
		edge, day int
		want      api.Outcome
		e         api.Errno
	}{
		{nothing, 0, 1, out(3, 10), api.OK},
		{func(e *api.Estate) { e.Endpoints[1].OwnOrder = true }, 0, 1, out(3, 8), api.OK},
		{until(1, 50), 0, 49, out(3, 10), api.OK},
		{until(1, 50), 0, 50, out(0, 0), api.ErrTrust},
		{until(1, 50), 1, 50, out(3, 10), api.OK},
		{func(e *api.Estate) { e.Endpoints[1].Suites = nil }, 2, 1, out(0, 0), api.ErrNoSuite},
		{nothing, 0, -1, out(0, 0), api.ErrRange},
		{nothing, 0, api.MaxDay + 1, out(0, 0), api.ErrRange},
		{nothing, 3, -1, out(0, 0), api.ErrNone},
		{nothing, -1, 1, out(0, 0), api.ErrNone},
		{wrong, 3, -1, out(0, 0), api.ErrEstate},
	} {
		if o, e := conversation.Works(with(x.f), x.edge, x.day); o != x.want || e != x.e {
			t.Errorf("%d, %d: %v, %v", x.edge, x.day, o, e)
		}
	}
}

func TestAll(t *testing.T) { // P26.1
	l, broken, e := conversation.All(with(until(1, 50)), 50)
	if e != api.OK || !slices.Equal(l, []api.Outcome{{}, out(3, 10), {}}) || !slices.Equal(broken, []int{0, 2}) {
		t.Errorf("%v, %v, %v", l, broken, e)
	}
	for day, want := range map[int]int{0: 0, api.MaxDay: 3} {
		_, broken, e := conversation.All(sample.Estate(), day)
		m, f := conversation.Methods(sample.Estate(), 0, day)
		if e != api.OK || len(broken) != want || f != api.OK || (len(m) == 0) != (want > 0) {
			t.Errorf("%d: %v, %v, %v, %v", day, broken, e, m, f)
		}
	}
	l, broken, e = conversation.All(sample.Estate(), 50)
	if e != api.OK || !slices.Equal(l, slices.Repeat([]api.Outcome{out(3, 10)}, 3)) || len(broken) > 0 {
		t.Errorf("%v, %v, %v", l, broken, e)
	}
	for _, x := range []struct {
		f    func(*api.Estate)
		day  int
		want api.Errno
	}{{wrong, -1, api.ErrEstate}, {nothing, -1, api.ErrRange}, {nothing, api.MaxDay + 1, api.ErrRange}} {
		if l, broken, e := conversation.All(with(x.f), x.day); e != x.want || len(l)+len(broken) > 0 {
			t.Errorf("%v, %v, %v", l, broken, e)
		}
	}
}

func TestMethods(t *testing.T) { // P26.2
	ed := func(e *api.Estate) { // version 4 is served by a key that nobody trusts
		s, c := &e.Endpoints[1], &e.Endpoints[0]
		s.Most, c.Most = 4, 4
		s.Identities = append([]api.Identity{sample.Identity("db", api.Use{Alg: api.ED25519}, 7, 5)}, s.Identities...)
		s.Suites, c.Suites = []int{14, 10, 2}, []int{2, 10, 14}
	}
	for _, x := range []struct {
		f         func(*api.Estate)
		edge, day int
		want      []api.Outcome
	}{
		{nothing, 1, 1, []api.Outcome{out(1, 2), out(2, 2), out(3, 2), out(3, 10)}},
		{ed, 0, 1, []api.Outcome{out(1, 2), out(2, 2), out(3, 2), out(3, 10)}},
		{until(1, 50), 0, 50, nil},
		{func(e *api.Estate) { e.Endpoints[0].Suites = nil }, 0, 1, nil},
	} {
		if l, e := conversation.Methods(with(x.f), x.edge, x.day); e != api.OK || !slices.Equal(l, x.want) {
			t.Errorf("%d, %d: %v, %v", x.edge, x.day, l, e)
		}
	}
	for _, x := range []struct {
		f         func(*api.Estate)
		edge, day int
		want      api.Errno
	}{{wrong, 9, -1, api.ErrEstate}, {nothing, 3, -1, api.ErrNone}, {nothing, -1, 1, api.ErrNone}, {nothing, 0, -1, api.ErrRange}, {nothing, 0, api.MaxDay + 1, api.ErrRange}} {
		if l, e := conversation.Methods(with(x.f), x.edge, x.day); e != x.want || len(l) > 0 {
			t.Errorf("%v, %v", l, e)
		}
	}
}

func TestUntil(t *testing.T) { // P26.3
	for _, x := range []struct {
		f         func(*api.Estate)
		edge, day int
		want      int
		e         api.Errno
	}{
		{nothing, 0, 5, sample.Last, api.OK},
		{until(1, 50), 0, 49, 50, api.OK},
		{until(1, 50), 1, 49, sample.Last, api.OK},
		{until(1, 50), 0, 50, 0, api.ErrTrust},
		{until(1, api.MaxDay), 0, 50, api.MaxDay, api.OK},
		{nothing, 0, -1, 0, api.ErrRange},
		{nothing, 5, 1, 0, api.ErrNone},
		{wrong, 5, 1, 0, api.ErrEstate},
	} {
		if n, e := conversation.Until(with(x.f), x.edge, x.day); n != x.want || e != x.e {
			t.Errorf("%d, %d: %d, %v", x.edge, x.day, n, e)
		}
	}
}

func TestDuring(t *testing.T) { // P26.3
	for _, x := range []struct {
		f              func(*api.Estate)
		edge, from, to int
		want           api.Outcome
		e              api.Errno
	}{
		{nothing, 0, 5, 9, out(3, 10), api.OK},
		{nothing, 0, 5, 5, out(3, 10), api.OK},
		{nothing, 0, 5, 4, out(0, 0), api.ErrDays},
		{until(1, 50), 0, 5, 49, out(3, 10), api.OK},
		{until(1, 50), 0, 5, 50, out(0, 0), api.ErrTrust},
		{until(1, 50), 0, 50, 5, out(0, 0), api.ErrTrust},
		{until(1, 50), 0, 50, -1, out(0, 0), api.ErrTrust},
		{nothing, 0, -1, sample.Last, out(0, 0), api.ErrRange},
		{nothing, 0, 1, -1, out(0, 0), api.ErrRange},
		{nothing, 3, 1, 1, out(0, 0), api.ErrNone},
		{wrong, 3, 1, 1, out(0, 0), api.ErrEstate},
	} {
		if o, e := conversation.During(with(x.f), x.edge, x.from, x.to); o != x.want || e != x.e {
			t.Errorf("%d, %d, %d: %v, %v", x.edge, x.from, x.to, o, e)
		}
	}
}

func TestNeeded(t *testing.T) { // P26.4
	for alg, want := range map[int][]int{api.RSA: {0, 1, 2}, api.ECDHE: nil, api.RC4: nil, api.AESGCM: nil, api.MD5: nil, api.MLKEM: nil} {
		if l, e := conversation.Needed(sample.Estate(), alg); e != api.OK || !slices.Equal(l, want) {
			t.Errorf("%d: %v, %v", alg, l, e)
		}
	}
	less := func(e *api.Estate) { e.Endpoints[2].Suites = []int{10} }
	for alg, want := range map[int][]int{api.AESGCM: {1, 2}, api.ECDHE: {1, 2}, api.RC4: nil} {
		if l, e := conversation.Needed(with(less), alg); e != api.OK || !slices.Equal(l, want) {
			t.Errorf("%d: %v, %v", alg, l, e)
		}
	}
	if l, e := conversation.Needed(with(func(e *api.Estate) { e.Endpoints[2].Suites = nil }), api.MD5); e != api.OK || !slices.Equal(l, []int{1, 2}) {
		t.Errorf("without any outcome: %v, %v", l, e)
	}
	for _, alg := range []int{0, -1, 23} {
		if l, e := conversation.Needed(sample.Estate(), alg); e != api.ErrUse || len(l) > 0 {
			t.Errorf("%d: %v, %v", alg, l, e)
		}
		if _, e := conversation.Needed(with(wrong), alg); e != api.ErrEstate {
			t.Error(e)
		}
	}
}

// TestDays checks the consequences at random: what works is a method, an edge works between two days on which it works, and no longer than Until.
func TestDays(t *testing.T) {
	r := rand.New(rand.NewSource(1))
	worked := 0
	for range 300 {
		e := with(func(e *api.Estate) {
			for i := range e.Endpoints {
				x := &e.Endpoints[i]
				x.Suites = slices.DeleteFunc(r.Perm(14)[:7], func(s int) bool { return s == 0 })
				x.Least, x.Most = 1+r.Intn(2), 2+r.Intn(2)
				c := &x.Identities[0].Chain[0]
				c.From, c.To = r.Intn(5), 5+r.Intn(5)
				*c = sample.Sealed(*c, c.Seal.Key)
			}
		})
		edge, day := r.Intn(3), r.Intn(12)
		o, f := conversation.Works(e, edge, day)
		if f != api.OK {
			continue
		}
		worked++
		if l, _ := conversation.Methods(e, edge, day); !slices.Contains(l, o) {
			t.Fatalf("%v: %v", o, l)
		}
		end, _ := conversation.Until(e, edge, day)
		for d := day; d < end; d++ {
			if p, f := conversation.Works(e, edge, d); p != o || f != api.OK {
				t.Fatalf("%d: %v, %v", d, p, f)
			}
		}
		if _, f := conversation.Works(e, edge, end); f == api.OK {
			t.Fatalf("%d", end)
		}
		server := e.Endpoints[e.Edges[edge].Server]
		at, _ := negotiate.Identity(server, o.Suite)
		if chain.Until(server.Identities[at].Chain) != end {
			t.Fatalf("%d", end)
		}
	}
	if worked < 50 {
		t.Error(worked)
	}
}

func TestMemory(t *testing.T) { // R3
	e := sample.Estate()
	apart(t, "All", func() []api.Outcome { l, _, _ := conversation.All(e, 1); return l }, e)
	apart(t, "Methods", func() []api.Outcome { l, _ := conversation.Methods(e, 1, 1); return l }, e)
	apart(t, "Needed", func() []int { l, _ := conversation.Needed(e, 1); return l }, e)
}
