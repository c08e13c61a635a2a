package report_test

import (
	"cipherplan/api"
	"cipherplan/catalog"
	"cipherplan/exposure"
	"cipherplan/finding"
	"cipherplan/report"
	"cipherplan/rule"
	"cipherplan/sample"
	"math"
	"slices"
	"strings"
	"testing"
)

func risk(kind, index, suite int) api.Risk { return api.Risk{Kind: kind, Index: index, Suite: suite} }

func wrong() api.Estate {
	e := sample.Estate()
	e.Endpoints[0].Most = 9
	return e
}

func TestRisk(t *testing.T) { // P43.1
	e := sample.Estate()
	for r, want := range map[api.Risk]string{
		risk(1, 0, 0): "broken app db\n", risk(1, 2, 0): "broken web db\n", risk(2, 1, 10): "open app web ecdhe-rsa-aes128-gcm\n", risk(3, 2, 15): "down web db chacha\n",
		risk(3, 0, 1): "down app db rsa-rc4-md5\n", risk(4, 0, 0): "item archive\n", risk(4, 1, 0): "item contract\n",
	} {
		if s, f := report.Risk(e, r); s != want || f != api.OK {
			t.Errorf("%v: %q, %v", r, s, f)
		}
		if got, f := report.Parse(e, want); got != r || f != api.OK {
			t.Errorf("%q: %v, %v", want, got, f)
		}
	}
	for _, r := range []api.Risk{{}, risk(5, 0, 0), risk(-1, 0, 0), risk(1, -1, 0), risk(1, 3, 0), risk(2, 3, 1), risk(4, 2, 0), risk(4, -1, 0), risk(2, 0, 0), risk(2, 0, 17), risk(3, 0, -1), risk(1, 0, 1), risk(4, 0, 1), risk(math.MaxInt, math.MinInt, 0), risk(1, math.MaxInt, 0)} {
		if s, f := report.Risk(e, r); s != "" || f != api.ErrRange {
			t.Errorf("%v: %q, %v", r, s, f)
		}
		if s, f := report.Risk(wrong(), r); s != "" || f != api.ErrEstate {
			t.Errorf("%v: %q, %v", r, s, f)
		}
	}
}

func TestParse(t *testing.T) { // P43.1
	e := sample.Estate()
	e.Items = append(e.Items, e.Items[0], e.Items[1])
	for s, want := range map[string]api.Risk{"item archive\n": risk(4, 0, 0), "item contract\n": risk(4, 1, 0)} {
		if r, f := report.Parse(e, s); r != want || f != api.OK {
			t.Errorf("%q: %v, %v", s, r, f)
		}
	}
	for _, s := range []string{"", "\n", "broken app db", "broken app db\n\n", "broken  app db\n", " broken app db\n", "broken app db \n", "broken db app\n", "broken app x\n", "broken app\n", "open app db\n", "open app db aes\n", "down app db chacha x\n", "item x\n", "item\n", "Broken app db\n", "broken app db chacha\n"} {
		if r, f := report.Parse(e, s); r != (api.Risk{}) || f != api.ErrLine {
			t.Errorf("%q: %v, %v", s, r, f)
		}
	}
	if r, f := report.Parse(wrong(), "x"); r != (api.Risk{}) || f != api.ErrEstate {
		t.Errorf("%v, %v", r, f)
	}
	all := 0
	for kind := range 6 { // consequence: Parse of Risk is the risk
		for index := range 4 {
			for suite := range 18 {
				r := risk(kind, index, suite)
				if s, f := report.Risk(sample.Estate(), r); f == api.OK {
					all++
					if got, f := report.Parse(sample.Estate(), s); got != r || f != api.OK {
						t.Errorf("%v: %v, %v", r, got, f)
					}
				}
			}
		}
	}
	if all != 3+2*3*len(catalog.Suites())+2 {
		t.Error(all)
	}
}

// found returns a finding of a kind.
func found(kind int, u api.Use, number int, text string) api.Finding {
	return api.Finding{Source: 1, Host: "web", Machine: 7, Day: 12, Confidence: 50, Kind: kind, Subject: "tls", Use: u, Number: number, Text: text}
}

func TestFinding(t *testing.T) { // P43.2
	for _, x := range []struct {
		f    api.Finding
		want string
	}{
		{found(api.FindUse, sample.RSA(), 0, ""), "12 web 7 tls use rsa-2048 50\n"},
		{found(api.FindOff, api.Use{Alg: api.MD5}, 0, ""), "12 web 7 tls off md5 50\n"},
		{found(api.FindSuite, api.Use{}, 999, ""), "12 web 7 tls suite 999 50\n"},
		{found(api.FindKey, sample.RSA(), 31, ""), "12 web 7 tls key rsa-2048 31 50\n"},
		{found(api.FindMost, api.Use{}, 3, ""), "12 web 7 tls most 3 50\n"},
		{found(api.FindLeast, api.Use{}, 1, ""), "12 web 7 tls least 1 50\n"},
		{found(api.FindTrust, api.Use{}, 0, ""), "12 web 7 tls trust 0 50\n"},
		{found(api.FindPeer, api.Use{}, 0, "db"), "12 web 7 tls peer db 50\n"},
	} {
		if s, e := report.Finding(x.f); s != x.want || e != api.OK {
			t.Errorf("%v: %q, %v", x.f, s, e)
		}
		x.f.Confidence = 0
		if s, e := report.Finding(x.f); s != "" || e != api.ErrFinding {
			t.Errorf("%v: %q, %v", x.f, s, e)
		}
	}
	if s, e := report.Finding(api.Finding{}); s != "" || e != api.ErrFinding {
		t.Errorf("%q, %v", s, e)
	}
}

func TestWhy(t *testing.T) { // P43.2
	at := func(host string, day, kind int) api.Finding {
		return api.Finding{Source: 1, Host: host, Machine: 5, Day: day, Confidence: 9, Kind: kind, Subject: "tls", Use: api.Use{Alg: api.MD5}}
	}
	l, _ := finding.Norm([]api.Finding{at("a", 1, api.FindUse), at("a", 3, api.FindUse), at("b", 2, api.FindOff)})
	f := api.Fact{Subject: "tls", Kind: api.FindUse, Use: api.Use{Alg: api.MD5}, Text: "b"}
	if s, e := report.Why(l, 1, 5, 9, f); s != "3 a 5 tls use md5 9\n2 b 5 tls off md5 9\n" || e != api.OK {
		t.Errorf("%q, %v", s, e)
	}
	f.Text = "c"
	if s, e := report.Why(l, 1, 5, 9, f); s != "" || e != api.ErrNone {
		t.Errorf("%q, %v", s, e)
	}
	if s, e := report.Why(slices.Concat(l, l), -1, 5, 9, f); s != "" || e != api.ErrFinding {
		t.Errorf("%q, %v", s, e)
	}
	if s, e := report.Why(l, -1, 5, 9, f); s != "" || e != api.ErrRange {
		t.Errorf("%q, %v", s, e)
	}
}

func TestAll(t *testing.T) { // P43.3
	e := sample.Estate()
	e.Endpoints[0].Fallback = true
	e.Endpoints[1].Suites = []int{8}
	p, _, _ := rule.Parse("forbid rc4\nforbid hmacsha1\nforbid sha1 for sign")
	want := "open app db ecdhe-rsa-aes128-sha\ndown app db ecdhe-rsa-aes128-sha\ndown app db ecdhe-rsa-aes128-sha\ndown app web rsa-rc4-sha\ndown app web rsa-rc4-sha\nbroken web db\nitem archive\nitem contract\n"
	s, f := report.All(e, p, nil, api.Owners{}, 100, 0)
	if s != want || f != api.OK {
		t.Errorf("%q, %v", s, f)
	}
	if risks, _ := exposure.Risks(e, p, nil, api.Owners{}, 100, 0); len(risks) != strings.Count(s, "\n") {
		t.Errorf("%v", risks)
	}
	if s, f := report.All(sample.Estate(), api.Policy{}, nil, api.Owners{}, 100, 0); s != "" || f != api.OK {
		t.Errorf("%q, %v", s, f)
	}
	for _, x := range []struct {
		e    api.Estate
		p    api.Policy
		x    []api.Exception
		day  int
		want api.Errno
	}{{wrong(), api.Policy{Rules: []api.Rule{{}}}, nil, -1, api.ErrEstate}, {e, api.Policy{Rules: []api.Rule{{}}}, nil, -1, api.ErrRule}, {e, p, make([]api.Exception, 1), -1, api.ErrException}, {e, p, nil, -1, api.ErrRange}} {
		if s, f := report.All(x.e, x.p, x.x, api.Owners{}, x.day, 0); s != "" || f != x.want {
			t.Errorf("%q, %v", s, f)
		}
	}
}

func TestChanges(t *testing.T) { // P43.3
	var p api.Plan
	for kind := 1; kind <= api.ChangeKinds; kind++ {
		p.Changes = append(p.Changes, api.Change{Endpoint: kind % 3, Kind: kind, Number: 100 + kind, Identity: api.Identity{KeyId: 77}})
		p.Days = append(p.Days, 20-kind/2)
	}
	want := "14 app order 112\n15 db drop-hash 110\n15 web fallback 111\n16 web drop-anchor 108\n16 app add-hash 109\n17 app drop-identity 106\n17 db add-anchor 107\n18 db least 104\n18 web add-identity 77\n19 web drop-suite 102\n19 app most 103\n20 db add-suite 101\n"
	if s, f := report.Changes(sample.Estate(), p); s != want || f != api.OK {
		t.Errorf("%q, %v", s, f)
	}
	if s, f := report.Changes(sample.Estate(), api.Plan{}); s != "" || f != api.OK {
		t.Errorf("%q, %v", s, f)
	}
	one := func(c api.Change) api.Plan { return api.Plan{Changes: []api.Change{c}, Days: []int{1}} }
	for i, x := range []struct {
		e    api.Estate
		p    api.Plan
		want api.Errno
	}{
		{wrong(), api.Plan{Days: []int{1}}, api.ErrEstate},
		{sample.Estate(), api.Plan{Days: []int{1}}, api.ErrPlan},
		{sample.Estate(), api.Plan{Changes: p.Changes, Days: p.Days[:3]}, api.ErrPlan},
		{sample.Estate(), api.Plan{Changes: slices.Repeat(p.Changes[:1], 25), Days: make([]int, 25)}, api.ErrPlan},
		{sample.Estate(), api.Plan{Changes: slices.Repeat(p.Changes[:1], 24), Days: make([]int, 24)}, api.OK},
		{sample.Estate(), one(api.Change{Endpoint: 3, Kind: 1}), api.ErrPlan},
		{sample.Estate(), one(api.Change{Endpoint: -1, Kind: 1}), api.ErrPlan},
		{sample.Estate(), one(api.Change{}), api.ErrPlan},
		{sample.Estate(), one(api.Change{Kind: 13}), api.ErrPlan},
		{sample.Estate(), one(api.Change{Kind: -1}), api.ErrPlan},
		{sample.Estate(), one(api.Change{Kind: 1, Number: -5}), api.OK},
	} {
		if s, f := report.Changes(x.e, x.p); f != x.want || (f == api.OK) == (s == "") {
			t.Errorf("%d: %q, %v", i, s, f)
		}
	}
}

func TestMemory(t *testing.T) { // R3
	e := sample.Estate()
	apart(t, "Risk", func() string { s, _ := report.Risk(e, risk(1, 0, 0)); return s }, e)
	apart(t, "Parse", func() api.Risk { r, _ := report.Parse(e, "item contract\n"); return r }, e)
}
