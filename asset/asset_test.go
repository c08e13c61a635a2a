package asset_test

import (
	"cipherplan/api"
	"cipherplan/asset"
	"cipherplan/finding"
	"cipherplan/identity"
	"math"
	"math/rand"
	"slices"
	"testing"
)

func md5() api.Use  { return api.Use{Alg: api.MD5} }
func sha1() api.Use { return api.Use{Alg: api.SHA1} }

// at returns a finding of a kind on a day.
func at(kind, day int, u api.Use, number int, text string) api.Finding {
	return api.Finding{Source: 1, Host: "web", Machine: 1, Day: day, Confidence: 50, Kind: kind, Subject: "tls", Use: u, Number: number, Text: text}
}

func norm(t *testing.T, l ...api.Finding) []api.Finding {
	t.Helper()
	n, e := finding.Norm(l)
	if e != api.OK {
		t.Fatal(e)
	}
	return n
}

// all returns an entity with all findings.
func all(l []api.Finding) api.Entity {
	e := api.Entity{Number: 77}
	for i := range l {
		e.Findings = append(e.Findings, i)
	}
	return e
}

// facts returns the facts of an entity with all findings.
func facts(t *testing.T, l []api.Finding, day, age int) []api.Fact {
	t.Helper()
	f, e := asset.Facts(l, all(l), day, age)
	if e != api.OK {
		t.Error(e)
	}
	return f
}

func TestExample(t *testing.T) { // P16.1
	l := norm(t, at(api.FindUse, 3, md5(), 0, ""), at(api.FindOff, 5, md5(), 0, ""))
	want := api.Fact{Entity: 77, Subject: "tls", Kind: api.FindUse, Use: md5(), Finding: 0}
	for day, n := range map[int]int{2: 0, 3: 1, 4: 1, 5: 0, 6: 0} {
		f := facts(t, l, day, 100)
		if len(f) != n || n == 1 && f[0] != want {
			t.Errorf("%d: %v", day, f)
		}
	}
}

func TestPlaces(t *testing.T) { // P16.1: what competes for a place, and the order of facts
	other := at(api.FindUse, 1, md5(), 0, "")
	other.Subject = "ssh"
	l := norm(t,
		at(api.FindUse, 1, md5(), 0, ""), at(api.FindUse, 2, sha1(), 0, ""), at(api.FindUse, 1, api.Use{Alg: api.RC4, Bits: 128}, 0, ""), at(api.FindUse, 3, api.Use{Alg: api.RC4, Bits: 40}, 0, ""),
		at(api.FindSuite, 1, api.Use{}, 9, ""), at(api.FindSuite, 2, api.Use{}, 3, ""), at(api.FindTrust, 1, api.Use{}, 9, ""), at(api.FindTrust, 2, api.Use{}, 8, ""),
		at(api.FindPeer, 1, api.Use{}, 0, "b"), at(api.FindPeer, 2, api.Use{}, 0, "a"),
		at(api.FindMost, 1, api.Use{}, 4, ""), at(api.FindMost, 2, api.Use{}, 3, ""), at(api.FindLeast, 2, api.Use{}, 1, ""), at(api.FindLeast, 1, api.Use{}, 2, ""),
		at(api.FindKey, 1, api.Use{Alg: api.RSA, Bits: 2048}, 5, ""), at(api.FindKey, 2, api.Use{Alg: api.ED25519}, 6, ""),
		at(api.FindOff, 9, api.Use{Alg: api.DES3, Bits: 112}, 0, ""), other)
	want := []api.Fact{
		{Subject: "ssh", Kind: api.FindUse, Use: md5()},
		{Kind: api.FindUse, Use: md5()}, {Kind: api.FindUse, Use: sha1()}, {Kind: api.FindUse, Use: api.Use{Alg: api.RC4, Bits: 40}}, {Kind: api.FindUse, Use: api.Use{Alg: api.RC4, Bits: 128}},
		{Kind: api.FindSuite, Number: 3}, {Kind: api.FindSuite, Number: 9},
		{Kind: api.FindKey, Use: api.Use{Alg: api.ED25519}, Number: 6}, {Kind: api.FindMost, Number: 3}, {Kind: api.FindLeast, Number: 1},
		{Kind: api.FindTrust, Number: 8}, {Kind: api.FindTrust, Number: 9}, {Kind: api.FindPeer, Text: "a"}, {Kind: api.FindPeer, Text: "b"},
	}
	f := facts(t, l, 10, 10)
	if len(f) != len(want) {
		t.Fatalf("%v", f)
	}
	for i, x := range f {
		y := want[i]
		y.Entity, y.Finding = 77, x.Finding
		if y.Subject == "" {
			y.Subject = "tls"
		}
		if g := l[x.Finding]; x != y || g.Kind != x.Kind || g.Number != x.Number || g.Use != x.Use || g.Text != x.Text {
			t.Errorf("%d: %v, not %v", i, x, y)
		}
	}
}

func TestDecisive(t *testing.T) { // P16.1
	sure := at(api.FindMost, 5, api.Use{}, 2, "")
	sure.Confidence = 60
	l := norm(t, at(api.FindMost, 5, api.Use{}, 3, ""), at(api.FindMost, 5, api.Use{}, 1, ""), sure, at(api.FindMost, 7, api.Use{}, 4, ""))
	for _, x := range []struct{ day, age, want int }{{4, 100, 0}, {5, 0, 2}, {6, 0, 0}, {6, 1, 2}, {7, 0, 4}, {7, 100, 4}, {8, 1, 4}, {9, 1, 0}, {api.MaxDay, api.MaxAge, 0}} {
		n, ok := asset.Number(facts(t, l, x.day, x.age), "tls", api.FindMost)
		if n != x.want || ok != (x.want > 0) {
			t.Errorf("%v: %d, %v", x, n, ok)
		}
	}
	two := norm(t, at(api.FindMost, 5, api.Use{}, 3, ""), at(api.FindMost, 5, api.Use{}, 1, ""))
	if n, _ := asset.Number(facts(t, two, 5, 0), "tls", api.FindMost); n != 1 {
		t.Errorf("the first in the list: %d", n)
	}
	part := all(l)
	part.Findings = []int{1, 0, 1}
	if f, e := asset.Facts(l, part, 9, 9); e != api.OK || len(f) != 1 || f[0].Number != 2 {
		t.Errorf("%v, %v", f, e)
	}
}

func TestErrors(t *testing.T) { // P16.1 and P16.2
	l := norm(t, at(api.FindMost, 5, api.Use{}, 3, ""), at(api.FindMost, 6, api.Use{}, 3, ""))
	none := api.Entity{Findings: []int{0, 2}}
	twice := slices.Concat(l, l)
	if f, e := asset.Facts(twice, none, -1, 0); e != api.ErrFinding || len(f) > 0 {
		t.Errorf("%v, %v", f, e)
	}
	for _, x := range [][2]int{{-1, 0}, {api.MaxDay + 1, 0}, {0, -1}, {0, api.MaxAge + 1}, {math.MinInt, math.MaxInt}} {
		if f, e := asset.Facts(l, none, x[0], x[1]); e != api.ErrRange || len(f) > 0 {
			t.Errorf("%v: %v, %v", x, f, e)
		}
	}
	for _, i := range []int{-1, 2, math.MaxInt} {
		if f, e := asset.Facts(l, api.Entity{Findings: []int{i, 0}}, 5, 5); e != api.ErrNone || len(f) > 0 {
			t.Errorf("%d: %v, %v", i, f, e)
		}
		if c, e := asset.Conflicts(l, api.Entity{Findings: []int{0, i}}, 5); e != api.ErrNone || len(c) > 0 {
			t.Errorf("%d: %v, %v", i, c, e)
		}
	}
	var many []api.Finding
	for i := range 401 {
		many = append(many, at(api.FindMost, i, api.Use{}, 3, ""))
	}
	for _, bad := range [][]api.Finding{many, {l[0], l[0]}, {{}}} {
		_, e := asset.Facts(bad, api.Entity{}, 0, 0)
		if _, f := asset.Conflicts(bad, api.Entity{}, 1); e != api.ErrFinding || f != api.ErrFinding {
			t.Errorf("%d findings: %v, %v", len(bad), e, f)
		}
	}
	if f := facts(t, many[:400], 399, 399); len(f) != 1 {
		t.Errorf("%v", f)
	}
	if c, e := asset.Conflicts(twice, none, 0); e != api.ErrFinding || len(c) > 0 {
		t.Errorf("%v, %v", c, e)
	}
	for _, n := range []int{0, -1, 101} {
		if c, e := asset.Conflicts(l, none, n); e != api.ErrRange || len(c) > 0 {
			t.Errorf("%d: %v, %v", n, c, e)
		}
	}
	if f, e := asset.Facts(nil, api.Entity{}, 0, 0); e != api.OK || len(f) > 0 {
		t.Errorf("%v, %v", f, e)
	}
}

func TestParts(t *testing.T) { // P16.2
	f := []api.Fact{{Subject: "a", Kind: api.FindUse, Use: sha1()}, {Subject: "a", Kind: api.FindKey, Use: md5(), Number: 5}, {Subject: "b", Kind: api.FindUse, Use: md5()}, {Subject: "a", Kind: api.FindUse, Use: md5()}, {Subject: "a", Kind: api.FindKey, Number: 6}}
	if u := asset.Uses(f, "a"); !slices.Equal(u, []api.Use{sha1(), md5()}) {
		t.Error(u)
	}
	if u := asset.Uses(f, "c"); len(u) > 0 {
		t.Error(u)
	}
	if n, ok := asset.Number(f, "a", api.FindKey); n != 5 || !ok {
		t.Errorf("%d, %v", n, ok)
	}
	if n, ok := asset.Number(f, "b", api.FindKey); n != 0 || ok {
		t.Errorf("%d, %v", n, ok)
	}
}

func TestConflicts(t *testing.T) { // P16.2
	unsure := func(f api.Finding) api.Finding { f.Confidence = 10; return f }
	ssh := func(f api.Finding) api.Finding { f.Subject = "ssh"; return f }
	for name, x := range map[string]struct {
		a, b api.Finding
		want bool
	}{
		"on and off":     {at(api.FindUse, 1, md5(), 0, ""), at(api.FindOff, 1, md5(), 0, ""), true},
		"other days":     {at(api.FindUse, 1, md5(), 0, ""), at(api.FindOff, 2, md5(), 0, ""), false},
		"other uses":     {at(api.FindUse, 1, md5(), 0, ""), at(api.FindOff, 1, sha1(), 0, ""), false},
		"both on":        {at(api.FindUse, 1, md5(), 0, ""), unsure(at(api.FindUse, 1, md5(), 0, "")), false},
		"unsure":         {at(api.FindUse, 1, md5(), 0, ""), unsure(at(api.FindOff, 1, md5(), 0, "")), false},
		"other subjects": {at(api.FindUse, 1, md5(), 0, ""), ssh(at(api.FindOff, 1, md5(), 0, "")), false},
		"most":           {at(api.FindMost, 1, api.Use{}, 1, ""), at(api.FindMost, 1, api.Use{}, 2, ""), true},
		"least":          {at(api.FindLeast, 1, api.Use{}, 1, ""), at(api.FindLeast, 1, api.Use{}, 2, ""), true},
		"most and least": {at(api.FindMost, 1, api.Use{}, 1, ""), at(api.FindLeast, 1, api.Use{}, 2, ""), false},
		"keys":           {at(api.FindKey, 1, api.Use{Alg: api.ED25519}, 1, ""), at(api.FindKey, 1, api.Use{Alg: api.ED25519}, 2, ""), true},
		"key uses":       {at(api.FindKey, 1, api.Use{Alg: api.ED25519}, 1, ""), at(api.FindKey, 1, api.Use{Alg: api.RSA, Bits: 2048}, 1, ""), true},
		"suites":         {at(api.FindSuite, 1, api.Use{}, 1, ""), at(api.FindSuite, 1, api.Use{}, 2, ""), false},
		"trust":          {at(api.FindTrust, 1, api.Use{}, 1, ""), at(api.FindTrust, 1, api.Use{}, 2, ""), false},
		"peers":          {at(api.FindPeer, 1, api.Use{}, 0, "a"), at(api.FindPeer, 1, api.Use{}, 0, "b"), false},
	} {
		l := norm(t, x.a, x.b)
		c, e := asset.Conflicts(l, all(l), 50)
		if e != api.OK || (len(c) == 1 && c[0] == api.Conflict{First: 0, Second: 1}) != x.want || len(c) > 1 {
			t.Errorf("%s: %v, %v", name, c, e)
		}
	}
	l := norm(t, at(api.FindMost, 1, api.Use{}, 1, ""), at(api.FindMost, 1, api.Use{}, 2, ""), at(api.FindMost, 1, api.Use{}, 3, ""))
	for _, confidence := range []int{1, 100} {
		if c, e := asset.Conflicts(l, all(l), confidence); e != api.OK || (len(c) == 3) != (confidence == 1) {
			t.Errorf("%d: %v, %v", confidence, c, e)
		}
	}
	want := []api.Conflict{{First: 0, Second: 1}, {First: 0, Second: 2}, {First: 1, Second: 2}}
	if c, e := asset.Conflicts(l, api.Entity{Findings: []int{2, 0, 1, 0}}, 50); e != api.OK || !slices.Equal(c, want) {
		t.Errorf("%v, %v", c, e)
	}
	if c, e := asset.Conflicts(l, api.Entity{Findings: []int{2, 0}}, 50); e != api.OK || !slices.Equal(c, want[1:2]) {
		t.Errorf("%v, %v", c, e)
	}
	if c, e := asset.Conflicts(l, all(l), 51); e != api.OK || len(c) > 0 {
		t.Errorf("%v, %v", c, e)
	}
}

func TestChanges(t *testing.T) { // P16.3
	fact := func(number, finding int) api.Fact {
		return api.Fact{Subject: "a", Kind: api.FindTrust, Number: number, Finding: finding}
	}
	a := []api.Fact{fact(3, 1), fact(1, 2), fact(2, 3)}
	b := []api.Fact{fact(5, 1), fact(2, 9), fact(4, 2)}
	came, went := asset.Changes(a, b)
	if !slices.Equal(came, []api.Fact{fact(5, 1), fact(4, 2)}) || !slices.Equal(went, []api.Fact{fact(3, 1), fact(1, 2)}) {
		t.Errorf("%v, %v", came, went)
	}
	came, went = asset.Changes(a, a)
	if len(came)+len(went) > 0 {
		t.Errorf("%v, %v", came, went)
	}
	for _, f := range []func(*api.Fact){func(f *api.Fact) { f.Entity++ }, func(f *api.Fact) { f.Subject += "x" }, func(f *api.Fact) { f.Kind++ }, func(f *api.Fact) { f.Use.Bits++ }, func(f *api.Fact) { f.Number++ }, func(f *api.Fact) { f.Text += "x" }} {
		x := fact(1, 1)
		f(&x)
		if came, went := asset.Changes([]api.Fact{fact(1, 1)}, []api.Fact{x}); len(came) != 1 || len(went) != 1 {
			t.Errorf("%v", x)
		}
	}
}

// TestLater checks the consequences at random: a later finding changes no fact of an earlier day, and with a greater age no fact goes away.
func TestLater(t *testing.T) {
	r := rand.New(rand.NewSource(1))
	for range 1000 {
		var l []api.Finding
		for range r.Intn(10) {
			l = append(l, at([]int{api.FindMost, api.FindUse, api.FindUse, api.FindOff}[r.Intn(4)], r.Intn(8), api.Use{}, 1+r.Intn(3), ""))
			if f := &l[len(l)-1]; f.Kind != api.FindMost {
				f.Use, f.Number = md5(), 0
			}
		}
		l = norm(t, l...)
		day := r.Intn(8)
		more := norm(t, append(slices.Clone(l), at(api.FindOff, day+1, md5(), 0, ""), at(api.FindMost, day+1, api.Use{}, 4, ""))...)
		came, went := asset.Changes(facts(t, l, day, 8), facts(t, more, day, 8))
		if len(came)+len(went) > 0 {
			t.Fatalf("%v, %v", came, went)
		}
		for age := range 8 {
			a, b := facts(t, l, day, age), facts(t, l, day, age+1)
			if _, went := asset.Changes(a, b); len(went) > 0 {
				t.Fatalf("%v, %v", a, b)
			}
		}
	}
}

func TestMemory(t *testing.T) { // R3, and facts are those of entities
	l := norm(t, at(api.FindMost, 1, api.Use{}, 1, ""), at(api.FindMost, 1, api.Use{}, 2, ""))
	e, _ := identity.Entities(l, 0)
	f, _ := asset.Facts(l, e[0], 1, 1)
	apart(t, "Facts", func() []api.Fact { f, _ := asset.Facts(l, e[0], 1, 1); return f }, l, e)
	odd := api.Entity{Findings: []int{1, 0}}
	apart(t, "Facts", func() []api.Fact { f, _ := asset.Facts(l, odd, 1, 1); return f }, l, odd)
	apart(t, "Conflicts", func() []api.Conflict { c, _ := asset.Conflicts(l, e[0], 1); return c }, l, e)
	apart(t, "Uses", func() []api.Use { return asset.Uses(f, "tls") }, f)
	apart(t, "Changes", func() []api.Fact { came, _ := asset.Changes(nil, f); return came }, f)
}
