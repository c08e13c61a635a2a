package exposure_test

import (
	"cipherplan/api"
	"cipherplan/downgrade"
	"cipherplan/exception"
	"cipherplan/exposure"
	"cipherplan/finding"
	"cipherplan/lifetime"
	"cipherplan/negotiate"
	"cipherplan/rule"
	"cipherplan/sample"
	"fmt"
	"math/rand"
	"slices"
	"testing"
	"time"
)

func policy(t *testing.T, text string) api.Policy {
	t.Helper()
	p, _, e := rule.Parse(text)
	if e != api.OK {
		t.Fatal(e)
	}
	return p
}

// with returns the estate of the samples with something changed.
func with(f func(*api.Estate)) api.Estate {
	e := sample.Estate()
	f(&e)
	return e
}

func nothing(*api.Estate) {}

func TestCheck(t *testing.T) { // P23.1
	many := func(n int) func(*api.Estate) {
		return func(e *api.Estate) {
			for i := range n - 3 {
				e.Endpoints = append(e.Endpoints, sample.Endpoint(fmt.Sprintf("x%02d", i), 1))
			}
		}
	}
	edges := func(n int) func(*api.Estate) {
		return func(e *api.Estate) {
			many(16)(e)
			e.Edges = nil
			for i := range n {
				e.Edges = append(e.Edges, api.Edge{Client: i / 5, Server: 10 + i%5})
			}
		}
	}
	for name, x := range map[string]struct {
		f    func(*api.Estate)
		want api.Errno
	}{
		"sample":         {nothing, api.OK},
		"none":           {func(e *api.Estate) { *e = api.Estate{} }, api.OK},
		"16":             {many(16), api.OK},
		"17":             {many(17), api.ErrEstate},
		"40 edges":       {edges(40), api.OK},
		"41 edges":       {edges(41), api.ErrEstate},
		"30 items":       {func(e *api.Estate) { e.Items = slices.Repeat(e.Items[:1], 30) }, api.OK},
		"31 items":       {func(e *api.Estate) { e.Items = slices.Repeat(e.Items[:1], 31) }, api.ErrEstate},
		"an endpoint":    {func(e *api.Estate) { e.Endpoints[1].Most = 9 }, api.ErrEstate},
		"names twice":    {func(e *api.Estate) { e.Endpoints[1] = e.Endpoints[0] }, api.ErrEstate},
		"names descend":  {func(e *api.Estate) { e.Endpoints[1], e.Endpoints[0] = e.Endpoints[0], e.Endpoints[1] }, api.ErrEstate},
		"itself":         {func(e *api.Estate) { e.Edges[0].Server = 0 }, api.ErrEstate},
		"no client":      {func(e *api.Estate) { e.Edges[2].Client = 3 }, api.ErrEstate},
		"no server":      {func(e *api.Estate) { e.Edges[2].Server = 3 }, api.ErrEstate},
		"negative":       {func(e *api.Estate) { e.Edges[0].Client = -1 }, api.ErrEstate},
		"negative too":   {func(e *api.Estate) { e.Edges[0].Server = -1 }, api.ErrEstate},
		"an edge twice":  {func(e *api.Estate) { e.Edges[1] = e.Edges[0] }, api.ErrEstate},
		"edges descend":  {func(e *api.Estate) { slices.Reverse(e.Edges) }, api.ErrEstate},
		"servers desc":   {func(e *api.Estate) { e.Edges[0], e.Edges[1] = e.Edges[1], e.Edges[0] }, api.ErrEstate},
		"an item":        {func(e *api.Estate) { e.Items[1].Links = nil }, api.ErrEstate},
		"both ways okay": {func(e *api.Estate) { e.Edges = []api.Edge{{Client: 0, Server: 1}, {Client: 1, Server: 0}} }, api.OK},
	} {
		if f := exposure.Check(with(x.f)); f != x.want {
			t.Errorf("%s: %v", name, f)
		}
	}
}

func TestRisks(t *testing.T) { // P23.1
	fallback := func(e *api.Estate) { e.Endpoints[0].Fallback = true }
	for name, x := range map[string]struct {
		f         func(*api.Estate)
		text      string
		day, weak int
		want      string
	}{
		"nothing":         {nothing, "", 100, 512, "[]"},
		"broken":          {func(e *api.Estate) { e.Endpoints[1].Suites = nil }, "forbid any for transport", 100, 0, "[{1 0 0} {2 1 10} {1 2 0}]"},
		"open":            {nothing, "forbid aesgcm", 100, 0, "[{2 0 10} {2 1 10} {2 2 10}]"},
		"open from a day": {nothing, "forbid aesgcm from 101", 100, 0, "[]"},
		"down":            {fallback, "forbid rc4 for transport", 100, 0, "[{3 1 2} {3 1 2}]"},
		"weak":            {fallback, "forbid rc4", 100, 81, "[{3 0 2} {3 0 2} {3 0 2} {3 1 2} {3 1 2} {3 1 2} {3 2 2} {3 2 2} {3 2 2}]"},
		"open and down":   {fallback, "forbid any for transport", 100, 0, "[{2 0 10} {3 0 8} {3 0 8} {2 1 10} {3 1 2} {3 1 2} {2 2 10}]"},
		"broken and down": {func(e *api.Estate) {
			e.Endpoints[0].Suites, e.Endpoints[2].Suites = []int{10, 2}, []int{9, 10, 2}
			e.Endpoints[2].OwnOrder = true
			e.Endpoints[0].Suites = []int{9, 2}
			e.Endpoints[2].Identities = append(e.Endpoints[2].Identities, api.Identity{Key: api.Use{Alg: api.ECDSA, Bits: 256}})
			e.Endpoints[0].Fallback = true
		}, "forbid rc4", 100, 0, "[{2 0 2} {3 0 2} {3 0 2} {1 1 0} {3 1 2} {3 1 2}]"},
		"items":         {nothing, "forbid sha1 from 150", 150, 0, "[{4 0 0} {4 1 0}]"},
		"items earlier": {nothing, "forbid sha1 from 150", 149, 0, "[]"},
		"items later":   {nothing, "forbid sha1 from 201", 300, 0, "[]"},
		"items at once": {nothing, "forbid sha1 for sign from 200", 200, 0, "[{4 0 0} {4 1 0}]"},
		"one item":      {func(e *api.Estate) { e.Items[1].Links[0].Use.Alg = api.SHA256 }, "forbid sha1 for sign", 200, 0, "[{4 0 0}]"},
		"the last day":  {func(e *api.Estate) { e.Edges = nil }, "forbid sha1", api.MaxDay, 0, "[{4 0 0} {4 1 0}]"},
		"the first day": {nothing, "forbid aesgcm", 0, 0, "[{2 0 10} {2 1 10} {2 2 10}]"},
		"not trusted":   {nothing, "", sample.Last, 0, "[{1 0 0} {1 1 0} {1 2 0}]"},
	} {
		l, e := exposure.Risks(with(x.f), policy(t, x.text), nil, api.Owners{}, x.day, x.weak)
		if e != api.OK || fmt.Sprint(l) != x.want {
			t.Errorf("%s: %v, %v", name, l, e)
		}
	}
	x, _ := exception.Sign(api.Exception{Use: api.Use{Alg: api.AESGCM, Bits: 128}, Purpose: 1, Endpoint: "web", Days: api.Span{From: 50, To: 101}}, 5)
	if l, e := exposure.Risks(sample.Estate(), policy(t, "forbid aesgcm"), []api.Exception{x}, api.Owners{Keys: []int{5}, Need: 1}, 100, 0); e != api.OK || fmt.Sprint(l) != "[{2 0 10} {2 2 10}]" {
		t.Errorf("permitted: %v, %v", l, e)
	}
}

func TestErrors(t *testing.T) { // P23.1 and P23.4
	bad, none := api.Policy{Rules: []api.Rule{{}}}, make([]api.Exception, 1)
	wrong := func(e *api.Estate) { e.Endpoints[0].Name = "" }
	for i, x := range []struct {
		f         func(*api.Estate)
		p         api.Policy
		l         []api.Exception
		day, weak int
		want      api.Errno
	}{{wrong, bad, none, -1, -1, api.ErrEstate}, {nothing, bad, none, -1, -1, api.ErrRule}, {nothing, api.Policy{}, none, -1, -1, api.ErrException}, {nothing, api.Policy{}, nil, -1, 0, api.ErrRange}, {nothing, api.Policy{}, nil, api.MaxDay + 1, 0, api.ErrRange}, {nothing, api.Policy{}, nil, 0, -1, api.ErrRange}, {nothing, api.Policy{}, nil, 0, api.MaxStrength + 1, api.ErrRange}} {
		if l, e := exposure.Risks(with(x.f), x.p, x.l, api.Owners{}, x.day, x.weak); e != x.want || len(l) > 0 {
			t.Errorf("%d: %v, %v", i, l, e)
		}
		if x.weak == 0 {
			continue
		}
		if day, ok, e := exposure.First(with(x.f), x.p, x.l, api.Owners{}, 99, x.weak, []int{-1}); e != x.want || day != 0 || ok {
			t.Errorf("%d: %v", i, e)
		}
	}
	for _, edge := range []int{-1, 3} {
		if day, ok, e := exposure.First(sample.Estate(), api.Policy{}, nil, api.Owners{}, edge, 0, []int{-1}); e != api.ErrNone || day != 0 || ok {
			t.Errorf("%d: %v", edge, e)
		}
	}
	for _, days := range [][]int{{-1}, {1, api.MaxDay + 1}} {
		if day, ok, e := exposure.First(sample.Estate(), policy(t, "forbid any"), nil, api.Owners{}, 0, 0, days); e != api.ErrRange || day != 0 || ok {
			t.Errorf("%v: %v", days, e)
		}
	}
}

func TestFirst(t *testing.T) { // P23.4
	p := policy(t, "forbid aesgcm from 100 until 200\nforbid sha1 for sign")
	for _, x := range []struct {
		edge int
		days []int
		want int
		ok   bool
	}{{0, []int{0, 150, 100}, 150, true}, {2, []int{0, 99, 200}, 0, false}, {0, nil, 0, false}, {1, []int{sample.Last, 150}, sample.Last, true}} {
		if day, ok, e := exposure.First(sample.Estate(), p, nil, api.Owners{}, x.edge, 0, x.days); day != x.want || ok != x.ok || e != api.OK {
			t.Errorf("%v: %d, %v, %v", x, day, ok, e)
		}
	}
	zero := policy(t, "forbid aesgcm until 1")
	if day, ok, e := exposure.First(sample.Estate(), zero, nil, api.Owners{}, 0, 0, []int{5, 0}); day != 0 || !ok || e != api.OK {
		t.Errorf("%d, %v, %v", day, ok, e)
	}
	down := with(func(e *api.Estate) { e.Endpoints[0].Fallback = true })
	if day, ok, e := exposure.First(down, policy(t, "forbid rc4 from 5"), nil, api.Owners{}, 1, 0, []int{4, 5}); day != 5 || !ok || e != api.OK {
		t.Errorf("%d, %v, %v", day, ok, e)
	}
}

// TestAtRandom holds Risks against what the chapters below say, and First against Risks.
func TestAtRandom(t *testing.T) {
	r := rand.New(rand.NewSource(1))
	p := policy(t, "forbid rc4 from 50\nforbid hmacsha1 from 120\nforbid sha1 for sign from 150")
	for range 100 {
		e := with(func(e *api.Estate) {
			for i := range e.Endpoints {
				x := &e.Endpoints[i]
				x.Suites = slices.DeleteFunc(r.Perm(14)[:6], func(s int) bool { return s == 0 })
				x.Least, x.Most = 1+r.Intn(2), 2+r.Intn(2)
				x.Fallback = r.Intn(2) == 0
			}
		})
		day, weak := r.Intn(200), r.Intn(2)*100
		var want []api.Risk
		for i, x := range e.Edges {
			c, s := e.Endpoints[x.Client], e.Endpoints[x.Server]
			o, f := negotiate.Choose(c, s, day)
			if f != api.OK {
				want = append(want, api.Risk{Kind: api.RiskBroken, Index: i})
			} else if bad, _ := downgrade.Forbidden(p, nil, api.Owners{}, s, o, day); bad {
				want = append(want, api.Risk{Kind: api.RiskOpen, Index: i, Suite: o.Suite})
			}
			down, _ := downgrade.Down(c, s, p, nil, api.Owners{}, day, weak)
			for _, w := range down {
				if w.Outcome != o {
					want = append(want, api.Risk{Kind: api.RiskDown, Index: i, Suite: w.Outcome.Suite})
				}
			}
			has := slices.ContainsFunc(want, func(x api.Risk) bool { return x.Index == i })
			if _, ok, _ := exposure.First(e, p, nil, api.Owners{}, i, weak, []int{day}); ok != has {
				t.Fatalf("edge %d: %v", i, ok)
			}
		}
		for i, x := range e.Items {
			if fails, ok, _ := lifetime.Fails(p, x); ok && fails <= day && fails <= x.Until {
				want = append(want, api.Risk{Kind: api.RiskItem, Index: i})
			}
		}
		if l, f := exposure.Risks(e, p, nil, api.Owners{}, day, weak); f != api.OK || !slices.Equal(l, want) {
			t.Fatalf("%v, not %v", l, want)
		}
	}
}

func md5() api.Use { return api.Use{Alg: api.MD5} }

// use returns a finding that a host uses md5, or does not.
func use(host string, machine, day, kind int) api.Finding {
	return api.Finding{Source: 1, Host: host, Machine: machine, Day: day, Confidence: 50, Kind: kind, Subject: "tls", Use: md5()}
}

func norm(t *testing.T, l ...api.Finding) []api.Finding {
	t.Helper()
	n, e := finding.Norm(l)
	if e != api.OK {
		t.Fatal(e)
	}
	return n
}

// fact returns the fact that a host uses md5.
func fact(host string) api.Fact {
	return api.Fact{Entity: 99, Subject: "tls", Kind: api.FindUse, Use: md5(), Text: host, Finding: -7}
}

func TestWeak(t *testing.T) { // P23.2
	most := use("a", 2, 1, api.FindMost)
	most.Use, most.Number = api.Use{}, 3
	sha1 := use("a", 2, 1, api.FindUse)
	sha1.Use.Alg = api.SHA1
	l := norm(t, use("b", 1, 1, api.FindUse), use("a", 2, 1, api.FindUse), use("a", 2, 3, api.FindUse), use("c", 3, 1, api.FindUse), use("c", 3, 2, api.FindOff), most, sha1)
	want := []api.Fact{{Entity: 0, Subject: "tls", Kind: api.FindUse, Use: md5(), Finding: 3}, {Entity: 4, Subject: "tls", Kind: api.FindUse, Use: md5(), Finding: 4}}
	if f, e := exposure.Weak(l, 5, 4, 10, policy(t, "forbid md5 for sign from 4"), 2); e != api.OK || !slices.Equal(f, want) {
		t.Errorf("%v, %v", f, e)
	}
	other := use("a", 2, 3, api.FindUse)
	other.Subject = "zzz"
	older := use("a", 2, 3, api.FindMost)
	older.Use, older.Number = api.Use{}, 3
	more := norm(t, append(slices.Clone(l), other, older)...)
	if f, e := exposure.Weak(more, 5, 3, 0, policy(t, "forbid md5"), 4); e != api.OK || len(f) != 2 || f[1].Subject != "zzz" {
		t.Errorf("%v, %v", f, e)
	}
	if ok, e := exposure.Holds(more, 5, 3, 0, fact("a")); !ok || e != api.OK {
		t.Errorf("%v, %v", ok, e)
	}
	if f, e := exposure.Weak(l, 5, 3, 10, policy(t, "forbid md5 for sign from 4"), 2); e != api.OK || len(f) > 0 {
		t.Errorf("%v, %v", f, e)
	}
	if f, e := exposure.Weak(l, 5, 4, 10, policy(t, "forbid md5 for sign from 4"), 1); e != api.OK || len(f) > 0 {
		t.Errorf("%v, %v", f, e)
	}
	if f, e := exposure.Weak(l, 5, 4, 1, policy(t, "forbid any"), 1); e != api.OK || !slices.Equal(f, want[:1]) {
		t.Errorf("%v, %v", f, e)
	}
}

func TestFactErrors(t *testing.T) { // P23.2 and P23.3
	l := norm(t, use("a", 1, 1, api.FindUse))
	bad := api.Policy{Rules: []api.Rule{{}}}
	for i, x := range []struct {
		l             []api.Finding
		gap, day, age int
		p             api.Policy
		purpose       int
		want          api.Errno
	}{
		{slices.Concat(l, l), -1, -1, -1, bad, 0, api.ErrFinding},
		{l, -1, 1, 1, bad, 0, api.ErrRange},
		{l, api.MaxGap + 1, 1, 1, bad, 0, api.ErrRange},
		{l, 1, -1, 1, bad, 0, api.ErrRange},
		{nil, 1, api.MaxDay + 1, 1, bad, 0, api.ErrRange},
		{nil, 1, 1, -1, bad, 0, api.ErrRange},
		{l, 1, 1, api.MaxAge + 1, bad, 0, api.ErrRange},
		{nil, 1, 1, 1, bad, 0, api.ErrRule},
		{nil, 1, 1, 1, api.Policy{}, 0, api.ErrRange},
		{l, 1, 1, 1, api.Policy{}, 5, api.ErrRange},
	} {
		f, e := exposure.Weak(x.l, x.gap, x.day, x.age, x.p, x.purpose)
		if e != x.want || len(f) > 0 {
			t.Errorf("%d: %v, %v", i, f, e)
		}
		if i > 6 {
			continue
		}
		ok, e := exposure.Holds(x.l, x.gap, x.day, x.age, fact(""))
		why, g := exposure.Explain(x.l, x.gap, x.day, x.age, fact(""))
		if ok || e != x.want || g != x.want || len(why) > 0 {
			t.Errorf("%d: %v, %v, %v", i, ok, e, g)
		}
	}
	if why, e := exposure.Explain(l, 1, 1, 1, fact("b")); e != api.ErrNone || len(why) > 0 {
		t.Errorf("%v, %v", why, e)
	}
}

func TestHolds(t *testing.T) { // P23.2
	peer := use("b", 1, 4, api.FindPeer)
	peer.Use, peer.Text = api.Use{}, "x"
	l := norm(t, use("a", 1, 3, api.FindUse), peer, use("c", 2, 3, api.FindUse), use("c", 2, 5, api.FindOff))
	for _, x := range []struct {
		f    api.Fact
		day  int
		want bool
	}{
		{fact("a"), 5, true},
		{fact("b"), 5, true}, // the same entity
		{fact(""), 5, true},
		{fact("c"), 5, false},
		{fact("c"), 4, true},
		{fact("x"), 5, false},
		{fact("a"), 2, false},
		{fact("a"), 14, false}, // too old
		{api.Fact{Subject: "ssh", Kind: api.FindUse, Use: md5()}, 5, false},
		{api.Fact{Subject: "tls", Kind: api.FindKey, Use: md5()}, 5, false},
		{api.Fact{Subject: "tls", Kind: api.FindUse}, 5, false},
		{api.Fact{Subject: "tls", Kind: api.FindUse, Use: md5(), Number: 1}, 5, false},
		{api.Fact{Subject: "tls", Kind: api.FindPeer, Text: "a"}, 5, true}, // its Text is a host, not that of the finding
		{api.Fact{Subject: "tls", Kind: api.FindOff, Use: md5()}, 5, false},
	} {
		if ok, e := exposure.Holds(l, 3, x.day, 10, x.f); ok != x.want || e != api.OK {
			t.Errorf("%v: %v, %v", x, ok, e)
		}
	}
}

func TestExplain(t *testing.T) { // P23.3
	for name, x := range map[string]struct {
		l    []api.Finding
		f    api.Fact
		gap  int
		want []int
	}{
		"the later one":        {[]api.Finding{use("a", 1, 1, api.FindUse), use("a", 1, 3, api.FindUse)}, fact(""), 0, []int{1}},
		"an off between":       {[]api.Finding{use("a", 1, 1, api.FindUse), use("a", 1, 2, api.FindOff), use("a", 1, 3, api.FindUse)}, fact(""), 0, []int{2}},
		"by a renaming":        {[]api.Finding{use("a", 7, 1, api.FindUse), use("b", 7, 1, api.FindOff), use("b", 7, 0, api.FindUse)}, fact("a"), 0, []int{0}},
		"the name of a host":   {[]api.Finding{use("a", 7, 1, api.FindUse), use("b", 7, 0, api.FindOff)}, fact("b"), 0, []int{0, 1}},
		"of several entities":  {[]api.Finding{use("a", 1, 1, api.FindUse), use("b", 2, 1, api.FindUse)}, fact(""), 0, []int{1}},
		"without a machine":    {[]api.Finding{use("a", 0, 1, api.FindUse), use("a", 5, 2, api.FindOff), use("c", 5, 0, api.FindOff)}, fact("a"), 0, []int{0}},
		"joined by a nearest":  {[]api.Finding{use("a", 0, 2, api.FindUse), use("a", 5, 1, api.FindOff), use("c", 5, 0, api.FindOff)}, fact("c"), 1, []int{0, 1, 2}},
		"only again and again": {[]api.Finding{use("a", 0, 1, api.FindUse), use("a", 0, 2, api.FindUse), use("a", 0, 3, api.FindUse)}, fact("a"), 1, []int{2}},
	} {
		l := norm(t, x.l...)
		if why, e := exposure.Explain(l, x.gap, 4, 10, x.f); e != api.OK || !slices.Equal(why, x.want) {
			t.Errorf("%s: %v, %v", name, why, e)
		}
	}
}

func TestMinimal(t *testing.T) { // consequence: an explanation says the fact, and no more without any one of its findings
	r := rand.New(rand.NewSource(1))
	explained := 0
	for range 600 {
		var l []api.Finding
		for range r.Intn(14) {
			l = append(l, use(string(rune('a'+r.Intn(2))), r.Intn(3), r.Intn(6), []int{api.FindUse, api.FindOff}[r.Intn(2)]))
		}
		l = norm(t, l...)
		f := fact([]string{"", "a", "b"}[r.Intn(3)])
		gap := r.Intn(3)
		holds, _ := exposure.Holds(l, gap, 5, 10, f)
		why, e := exposure.Explain(l, gap, 5, 10, f)
		if (e == api.OK) != holds {
			t.Fatalf("%v: %v", holds, e)
		}
		for k := range why {
			if ok, _ := exposure.Holds(pick(l, append(slices.Clone(why[:k]), why[k+1:]...)), gap, 5, 10, f); ok {
				t.Fatalf("%v: %v without %d", l, why, why[k])
			}
			explained++
		}
		if ok, _ := exposure.Holds(pick(l, why), gap, 5, 10, f); ok != holds {
			t.Fatalf("%v: %v", l, why)
		}
	}
	if explained < 100 {
		t.Error(explained)
	}
}

func pick(l []api.Finding, indices []int) []api.Finding {
	var p []api.Finding
	for _, i := range indices {
		p = append(p, l[i])
	}
	return p
}

func TestMany(t *testing.T) { // 400 findings are explained in no time
	var l []api.Finding
	for i := range 200 {
		l = append(l, use(fmt.Sprintf("h%03d", i), i%3*i, i%7, api.FindUse), use(fmt.Sprintf("h%03d", i), i%3*i, 8+i%2, api.FindOff))
	}
	l[len(l)-1] = use("h199", 0, 20, api.FindUse)
	l = norm(t, l...)
	begin := time.Now()
	why, e := exposure.Explain(l, 4000, 20, 4000, fact(""))
	if e != api.OK || len(why) != 1 || time.Since(begin) > 20*time.Second {
		t.Errorf("%v, %v, %v", why, e, time.Since(begin))
	}
}

func TestMemory(t *testing.T) { // R3
	l, e, p := norm(t, use("a", 1, 3, api.FindUse), use("a", 2, 3, api.FindUse)), sample.Estate(), policy(t, "forbid any")
	apart(t, "Weak", func() []api.Fact { f, _ := exposure.Weak(l, 1, 3, 1, p, 1); return f }, l, p)
	apart(t, "Explain", func() []int { i, _ := exposure.Explain(l, 1, 3, 1, fact("")); return i }, l)
	apart(t, "Risks", func() []api.Risk { r, _ := exposure.Risks(e, p, nil, api.Owners{}, 1, 0); return r }, e, p)
}
