package verdict_test

import (
	"cipherplan/api"
	"cipherplan/catalog"
	"cipherplan/rule"
	"cipherplan/verdict"
	"math"
	"math/rand"
	"slices"
	"testing"
)

const end = api.MaxDay + 1

func md5() api.Use { return api.Use{Alg: api.MD5} }

func rsa(bits int) api.Use { return api.Use{Alg: api.RSA, Bits: bits} }

// policy returns the policy of a text.
func policy(t *testing.T, text string) api.Policy {
	t.Helper()
	p, _, e := rule.Parse(text)
	if e != api.OK {
		t.Fatal(e)
	}
	return p
}

func TestAllowed(t *testing.T) { // P18.1
	for _, x := range []struct {
		text         string
		u            api.Use
		purpose, day int
		want         bool
		at           int
	}{
		{"", md5(), 1, 0, true, -1},
		{"forbid any", md5(), 1, 0, false, 0},
		{"forbid md5\nallow md5 until 9", md5(), 1, 8, true, 1},
		{"forbid md5\nallow md5 until 9", md5(), 1, 9, false, 0},
		{"allow md5 until 9\nforbid md5", md5(), 1, 8, false, 1},
		{"forbid sha1", md5(), 1, 0, true, -1},
		{"forbid rsa below 2048", rsa(2047), 1, 0, false, 0},
		{"forbid rsa below 2048", rsa(2048), 1, 0, true, -1},
		{"forbid any below 2048", md5(), 1, 0, true, -1},
		{"forbid any below 16384", rsa(16384), 1, 0, true, -1},
		{"forbid md5 for sign", md5(), 2, 0, false, 0},
		{"forbid md5 for sign", md5(), 1, 0, true, -1},
		{"forbid md5 from 5 until 7", md5(), 1, 4, true, -1},
		{"forbid md5 from 5 until 7", md5(), 1, 5, false, 0},
		{"forbid md5 from 5 until 7", md5(), 1, 6, false, 0},
		{"forbid md5 from 5 until 7", md5(), 1, 7, true, -1},
		{"forbid md5 from 40000", md5(), 4, api.MaxDay, false, 0},
	} {
		ok, at, e := verdict.Allowed(policy(t, x.text), x.u, x.purpose, x.day)
		if e != api.OK || ok != x.want || at != x.at {
			t.Errorf("%v: %v, %d, %v", x, ok, at, e)
		}
	}
}

func TestErrors(t *testing.T) { // P18.1 to P18.3
	bad := api.Policy{Rules: []api.Rule{{}}}
	for i, x := range []struct {
		p            api.Policy
		u            api.Use
		purpose, day int
		want         api.Errno
	}{{bad, api.Use{}, 0, -1, api.ErrRule}, {api.Policy{}, api.Use{}, 0, -1, api.ErrUse}, {api.Policy{}, rsa(5), 1, 1, api.ErrUse}, {api.Policy{}, md5(), 0, 0, api.ErrRange}, {api.Policy{}, md5(), 5, 0, api.ErrRange}, {api.Policy{}, md5(), math.MinInt, 0, api.ErrRange}} {
		ok, at, e := verdict.Allowed(x.p, x.u, x.purpose, x.day)
		l, f := verdict.Spans(x.p, x.u, x.purpose)
		day, falls, g := verdict.Falls(x.p, x.u, x.purpose)
		if ok || at != 0 || e != x.want || len(l) > 0 || f != x.want || day != 0 || falls || g != x.want {
			t.Errorf("%d: %v, %d, %v; %v, %v; %d, %v, %v", i, ok, at, e, l, f, day, falls, g)
		}
	}
	for _, day := range []int{-1, end, math.MaxInt} {
		if ok, at, e := verdict.Allowed(api.Policy{}, md5(), 1, day); ok || at != 0 || e != api.ErrRange {
			t.Errorf("%d: %v, %d, %v", day, ok, at, e)
		}
	}
	if l, e := verdict.Dead(bad); len(l) > 0 || e != api.ErrRule {
		t.Errorf("%v, %v", l, e)
	}
}

func TestSpans(t *testing.T) { // P18.2
	for text, x := range map[string]struct {
		spans []api.Span
		fall  int
		falls bool
	}{
		"":                              {[]api.Span{{To: end}}, 0, false},
		"forbid any":                    {nil, 0, true},
		"forbid md5\nallow md5 until 9": {[]api.Span{{To: 9}}, 9, true},
		"forbid md5 from 9":             {[]api.Span{{To: 9}}, 9, true},
		"forbid md5 until 9":            {[]api.Span{{From: 9, To: end}}, 0, false},
		"forbid md5 from 5 until 9":     {[]api.Span{{To: 5}, {From: 9, To: end}}, 0, false},
		"forbid md5 from 5 until 9\nforbid md5 from 9 until 12\nforbid md5 from 20": {[]api.Span{{To: 5}, {From: 12, To: 20}}, 20, true},
		"forbid md5 from 40000":  {[]api.Span{{To: 40000}}, 40000, true},
		"forbid md5 until 40000": {[]api.Span{{From: 40000, To: end}}, 0, false},
		"forbid md5 for sign":    {[]api.Span{{To: end}}, 0, false},
		"forbid md5 from 3\nallow md5 from 3 until 5\nallow any from 5 until 8": {[]api.Span{{To: 8}}, 8, true},
	} {
		l, e := verdict.Spans(policy(t, text), md5(), 1)
		day, falls, f := verdict.Falls(policy(t, text), md5(), 1)
		if e != api.OK || f != api.OK || !slices.Equal(l, x.spans) || day != x.fall || falls != x.falls {
			t.Errorf("%q: %v, %v; %d, %v, %v", text, l, e, day, falls, f)
		}
	}
}

// random returns a policy of some rules.
func random(r *rand.Rand, n int) api.Policy {
	var p api.Policy
	for range r.Intn(n) {
		from := r.Intn(5) * 3
		to := from + 1 + r.Intn(8)
		if r.Intn(3) == 0 {
			to = end
		}
		p.Rules = append(p.Rules, api.Rule{Allow: r.Intn(2) == 0, Alg: []int{0, api.MD5, api.RSA, api.RC4}[r.Intn(4)], Below: r.Intn(2) * []int{41, 128, 129, 2048, 4096}[r.Intn(5)], Purpose: r.Intn(3), From: from, To: to})
	}
	return p
}

func TestDayByDay(t *testing.T) { // consequences: on a day of Spans, and on no other one, the use is allowed
	r := rand.New(rand.NewSource(1))
	for range 300 {
		p := random(r, 8)
		for _, u := range []api.Use{md5(), rsa(2048), {Alg: api.RC4, Bits: 128}} {
			l, _ := verdict.Spans(p, u, 1)
			day, falls, _ := verdict.Falls(p, u, 1)
			for i := 1; i < len(l); i++ {
				if l[i-1].To >= l[i].From {
					t.Fatalf("%v touch", l)
				}
			}
			for d := range 40 {
				ok, _, _ := verdict.Allowed(p, u, 1, d)
				if ok != slices.ContainsFunc(l, func(s api.Span) bool { return s.From <= d && d < s.To }) || falls && d >= day && ok || falls && d == day-1 && !ok {
					t.Fatalf("%v, %v, %d: %v, %v", p, u, d, ok, l)
				}
			}
			if ok, _, _ := verdict.Allowed(p, u, 1, api.MaxDay); ok == falls {
				t.Fatalf("%v, %v: %d, %v", p, u, day, falls)
			}
		}
	}
}

func TestKeep(t *testing.T) { // P18.3
	p := api.Policy{Keeps: []api.Keep{{Purpose: 1, Days: 5}, {Purpose: 2, Days: 6}, {Purpose: 1, Days: 3}}}
	for purpose, want := range map[int]int{1: 3, 2: 6, 3: 0, 0: 0, 5: 0, -1: 0} {
		if n := verdict.Keep(p, purpose); n != want {
			t.Errorf("%d: %d", purpose, n)
		}
	}
}

func TestDead(t *testing.T) { // P18.3
	for text, want := range map[string][]int{
		"forbid aead\nallow mldsa below 45": nil,
		"":                                  nil,
		"forbid md5":                        nil,
		"forbid md5\nforbid md5":            {0},
		"forbid md5\nallow any":             {0},
		"allow any\nforbid md5":             nil,
		"forbid md5 below 5000":             {0},
		"forbid any below 40":               {0},
		"forbid any below 41":               nil,
		"forbid rsa below 512":              {0},
		"forbid rsa below 513":              nil,
		"forbid rsa below 513\nallow rsa below 514":                                                            {0},
		"forbid rsa below 514\nallow rsa below 513":                                                            nil,
		"forbid rsa below 2048\nallow rsa below 1024\nforbid rsa below 1025":                                   {1},
		"forbid rc4 below 129\nallow rc4 below 128":                                                            nil,
		"forbid rc4 below 128\nallow rc4 below 100":                                                            {0},
		"forbid rc4 below 41\nallow rc4 below 40":                                                              {1},
		"forbid mlkem below 1024\nallow mlkem below 769":                                                       {0},
		"forbid mlkem below 1025\nallow mlkem below 769":                                                       nil,
		"forbid dhe below 16384\nallow dhe below 16383":                                                        nil,
		"forbid md5 from 5\nallow md5 until 5":                                                                 nil,
		"forbid md5 from 5\nallow md5 from 4":                                                                  {0},
		"forbid md5 from 4 until 6\nallow md5 from 5 until 6\nallow md5 from 4 until 5":                        {0},
		"forbid md5 from 40000\nallow md5 until 40000":                                                         nil,
		"forbid any for sign\nallow any for code\nforbid any for transport\nallow any":                         {0, 1, 2},
		"allow any\nforbid any for sign\nforbid any for code\nforbid any for transport":                        nil,
		"allow any\nforbid any for sign\nforbid any for code\nforbid any for transport\nforbid any for backup": {0},
	} {
		if l, e := verdict.Dead(policy(t, text)); e != api.OK || !slices.Equal(l, want) {
			t.Errorf("%q: %v, %v", text, l, e)
		}
	}
}

func TestWithoutDead(t *testing.T) { // consequence, and no other rule can be left out as dead
	r := rand.New(rand.NewSource(2))
	uses := []api.Use{md5(), {Alg: api.RC4, Bits: 40}, {Alg: api.RC4, Bits: 128}, {Alg: api.ECDSA, Bits: 160}}
	for bits := 512; bits <= 5000; bits += 512 {
		uses = append(uses, rsa(bits), rsa(bits-1+bits/512%2))
	}
	uses = slices.DeleteFunc(uses, func(u api.Use) bool { return !catalog.Valid(u) })
	for range 200 {
		p := random(r, 10)
		dead, e := verdict.Dead(p)
		if e != api.OK {
			t.Fatal(e)
		}
		for _, u := range uses {
			for purpose := 1; purpose <= 4; purpose++ {
				for day := range 25 {
					if _, at, _ := verdict.Allowed(p, u, purpose, day); slices.Contains(dead, at) {
						t.Fatalf("%v: %d is not dead", p, at)
					}
				}
			}
		}
	}
}

func TestMemory(t *testing.T) { // R3
	p := policy(t, "forbid md5\nforbid md5 from 5 until 9")
	apart(t, "Spans", func() []api.Span { l, _ := verdict.Spans(p, md5(), 1); return l }, p)
	apart(t, "Dead", func() []int { l, _ := verdict.Dead(p); return l }, p)
}
