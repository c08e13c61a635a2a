package gone_test

import (
	"cipherplan/api"
	"cipherplan/catalog"
	"cipherplan/exception"
	"cipherplan/finding"
	"cipherplan/gone"
	"cipherplan/sample"
	"math/rand"
	"slices"
	"testing"
)

func md5() api.Use { return api.Use{Alg: api.MD5} }

// at returns a finding about a host.
func at(host string, machine, day, kind int, u api.Use, number int) api.Finding {
	return api.Finding{Source: 1, Host: host, Machine: machine, Day: day, Confidence: 50, Kind: kind, Subject: "tls", Use: u, Number: number}
}

func norm(t *testing.T, l ...api.Finding) []api.Finding {
	t.Helper()
	n, e := finding.Norm(l)
	if e != api.OK {
		t.Fatal(e)
	}
	return n
}

func owners() api.Owners { return api.Owners{Keys: []int{7}, Need: 1} }

// permit returns a signed exception for a use at a host, on the days 3 to 8.
func permit(t *testing.T, u api.Use, purpose int, host string) api.Exception {
	t.Helper()
	x, e := exception.Sign(api.Exception{Use: u, Purpose: purpose, Endpoint: host, Days: api.Span{From: 3, To: 9}}, 7)
	if e != api.OK {
		t.Fatal(e)
	}
	return x
}

func TestSpeaks(t *testing.T) { // P40.1
	for _, s := range catalog.Suites() {
		for alg := -1; alg < 25; alg++ {
			want := alg > 0 && (s.Exchange.Alg == alg || s.Sign.Alg == alg || s.Cipher.Alg == alg || s.Mac.Alg == alg)
			if gone.Speaks(api.Fact{Kind: api.FindSuite, Number: s.Code}, alg) != want {
				t.Errorf("%s: %d", s.Name, alg)
			}
		}
	}
	for _, x := range []struct {
		f    api.Fact
		alg  int
		want bool
	}{
		{api.Fact{Kind: api.FindUse, Use: md5()}, api.MD5, true}, {api.Fact{Kind: api.FindUse, Use: md5()}, api.SHA1, false}, {api.Fact{Kind: api.FindKey, Use: sample.RSA()}, api.RSA, true},
		{api.Fact{Kind: api.FindOff, Use: md5()}, api.MD5, false}, {api.Fact{Kind: api.FindPeer, Use: md5()}, api.MD5, false}, {api.Fact{Kind: api.FindSuite, Number: 99}, api.RSA, false},
		{api.Fact{Kind: api.FindUse}, 0, false}, {api.Fact{Kind: api.FindUse, Use: api.Use{Alg: 23}}, 23, false}, {api.Fact{Kind: api.FindUse, Use: api.Use{Alg: -1}}, -1, false}, {api.Fact{Kind: api.FindSuite, Number: 14}, 0, false},
	} {
		if gone.Speaks(x.f, x.alg) != x.want {
			t.Errorf("%v", x)
		}
	}
}

func TestExample(t *testing.T) { // P40.1 and P40.3
	l := norm(t, at("a", 1, 3, api.FindUse, md5(), 0), at("a", 1, 5, api.FindOff, md5(), 0))
	for day, want := range map[int]bool{2: true, 3: false, 4: false, 5: true, 6: true} {
		if ok, e := gone.Gone(l, 1, day, 100, api.MD5, nil, api.Owners{}); ok != want || e != api.OK {
			t.Errorf("%d: %v, %v", day, ok, e)
		}
	}
	for _, x := range []struct {
		days []int
		want int
		ok   bool
	}{{[]int{3, 4, 6, 5}, 6, true}, {[]int{4, 3}, 0, false}, {nil, 0, false}, {[]int{0, 5}, 0, true}} {
		if day, ok, e := gone.First(l, 1, 100, api.MD5, nil, api.Owners{}, x.days); day != x.want || ok != x.ok || e != api.OK {
			t.Errorf("%v: %d, %v, %v", x.days, day, ok, e)
		}
	}
	if ok, e := gone.Gone(nil, 1, 5, 1, api.MD5, nil, api.Owners{}); !ok || e != api.OK {
		t.Errorf("without findings: %v, %v", ok, e)
	}
}

func TestEvidence(t *testing.T) { // P40.1
	rc4 := api.Use{Alg: api.RC4, Bits: 128}
	l := norm(t,
		at("a", 1, 3, api.FindSuite, api.Use{}, 2), at("a", 1, 4, api.FindUse, rc4, 0), at("a", 1, 2, api.FindUse, rc4, 0),
		at("b", 1, 3, api.FindSuite, api.Use{}, 10), at("c", 2, 3, api.FindUse, api.Use{Alg: api.RC4, Bits: 40}, 0), at("c", 2, 3, api.FindSuite, api.Use{}, 1))
	text := func(e []api.Evidence) (s string) {
		for _, x := range e {
			s += string(rune('0' + x.Finding))
			if x.Covered {
				s += "+"
			}
		}
		return s
	}
	for name, x := range map[string]struct {
		alg  int
		x    []api.Exception
		day  int
		want string
	}{
		"none covered":    {api.RC4, nil, 5, "1245"},
		"one host":        {api.RC4, []api.Exception{permit(t, rc4, 1, "a")}, 5, "1+2+45"},
		"its other name":  {api.RC4, []api.Exception{permit(t, rc4, 1, "b")}, 5, "1+2+45"},
		"by use":          {api.RC4, []api.Exception{permit(t, rc4, 1, "c")}, 5, "1245+"},
		"another size":    {api.RC4, []api.Exception{permit(t, api.Use{Alg: api.RC4, Bits: 40}, 1, "c")}, 5, "124+5"},
		"too late":        {api.RC4, []api.Exception{permit(t, rc4, 1, "a")}, 9, "1245"},
		"another purpose": {api.RC4, []api.Exception{permit(t, rc4, 2, "a")}, 5, "1245"},
		"not signed":      {api.RC4, []api.Exception{{Use: rc4, Purpose: 1, Endpoint: "a", Days: api.Span{From: 3, To: 9}}}, 5, "1245"},
		"any bits":        {api.RSAKX, []api.Exception{permit(t, api.Use{Alg: api.RSAKX, Bits: 4096}, 1, "a")}, 5, "1+5"},
		"any bits of rsa": {api.RSA, []api.Exception{permit(t, api.Use{Alg: api.RSA, Bits: 512}, 1, "c")}, 5, "135+"},
		"given bits":      {api.ECDHE, []api.Exception{permit(t, api.Use{Alg: api.ECDHE, Bits: 384}, 1, "b")}, 5, "3"},
		"the given bits":  {api.ECDHE, []api.Exception{permit(t, api.Use{Alg: api.ECDHE, Bits: 256}, 1, "a")}, 5, "3+"},
		"a mac":           {api.AEAD, []api.Exception{permit(t, api.Use{Alg: api.AEAD}, 1, "b")}, 5, "3+"},
		"something else":  {api.MD5, nil, 5, ""},
	} {
		got, e := gone.All(l, 1, x.day, 10, x.alg, x.x, owners())
		if e != api.OK || text(got) != x.want {
			t.Errorf("%s: %s, %v", name, text(got), e)
		}
		covered := !slices.ContainsFunc(got, func(e api.Evidence) bool { return !e.Covered })
		if ok, e := gone.Gone(l, 1, x.day, 10, x.alg, x.x, owners()); ok != covered || e != api.OK {
			t.Errorf("%s: %v, %v", name, ok, e)
		}
	}
}

func TestErrors(t *testing.T) { // P40.1 and P40.3
	l := norm(t, at("a", 1, 3, api.FindUse, md5(), 0))
	none := make([]api.Exception, 1)
	for i, x := range []struct {
		l                  []api.Finding
		gap, day, age, alg int
		x                  []api.Exception
		want               api.Errno
	}{
		{slices.Concat(l, l), -1, -1, -1, 0, none, api.ErrFinding},
		{l, -1, 1, 1, 0, none, api.ErrRange}, {l, api.MaxGap + 1, 1, 1, 0, none, api.ErrRange},
		{l, 1, 1, -1, 0, none, api.ErrRange}, {l, 1, 1, api.MaxAge + 1, 0, none, api.ErrRange},
		{l, 1, -1, 1, 0, none, api.ErrRange}, {l, 1, api.MaxDay + 1, 1, 0, none, api.ErrRange},
		{l, 1, 1, 1, 0, none, api.ErrUse}, {l, 1, 1, 1, 23, none, api.ErrUse}, {l, 1, 1, 1, -1, none, api.ErrUse},
		{nil, 1, 1, 1, 1, none, api.ErrException},
	} {
		a, e1 := gone.All(x.l, x.gap, x.day, x.age, x.alg, x.x, owners())
		b, e2 := gone.Gone(x.l, x.gap, x.day, x.age, x.alg, x.x, owners())
		e3 := gone.Retired(sample.Estate(), x.l, x.gap, x.day, x.age, x.alg, x.x, owners())
		if e1 != x.want || e2 != x.want || e3 != x.want || len(a) > 0 || b {
			t.Errorf("%d: %v, %v, %v", i, e1, e2, e3)
		}
		want := x.want
		if x.day != 1 && x.gap > 0 {
			want = api.ErrUse
		}
		if day, ok, e := gone.First(x.l, x.gap, x.age, x.alg, x.x, owners(), []int{-1}); e != want || day != 0 || ok {
			t.Errorf("%d: %v", i, e)
		}
	}
	for _, day := range []int{0, api.MaxDay} {
		for _, age := range []int{0, api.MaxAge} {
			a, e := gone.All(l, 1, day, age, api.MD5, nil, owners())
			if first, ok, f := gone.First(l, 1, age, api.MD5, nil, owners(), []int{day}); e != api.OK || f != api.OK || len(a) > 0 || first != day || !ok {
				t.Errorf("%d, %d: %v, %v, %v", day, age, a, e, f)
			}
		}
	}
	for _, days := range [][]int{{-1}, {1, api.MaxDay + 1}} {
		if day, ok, e := gone.First(l, 1, 1, 1, nil, owners(), days); e != api.ErrRange || day != 0 || ok {
			t.Errorf("%v: %v", days, e)
		}
	}
}

func TestRetired(t *testing.T) { // P40.2
	wrong := sample.Estate()
	wrong.Endpoints[0].Most = 9
	for alg, want := range map[int][]int{api.RC4: {0, 1, 2}, api.AESCBC: {0}, api.RSA: {0, 1, 2}, api.MD5: nil, api.DHE: nil} {
		if l, e := gone.Possible(sample.Estate(), alg); e != api.OK || !slices.Equal(l, want) {
			t.Errorf("%d: %v, %v", alg, l, e)
		}
	}
	for _, alg := range []int{0, -1, 23} {
		if l, e := gone.Possible(sample.Estate(), alg); e != api.ErrUse || len(l) > 0 {
			t.Errorf("%d: %v, %v", alg, l, e)
		}
		if l, e := gone.Possible(wrong, alg); e != api.ErrEstate || len(l) > 0 {
			t.Errorf("%d: %v, %v", alg, l, e)
		}
	}
	l := norm(t, at("a", 1, 3, api.FindUse, md5(), 0))
	for _, x := range []struct {
		e        api.Estate
		l        []api.Finding
		alg, day int
		x        []api.Exception
		want     api.Errno
	}{
		{sample.Estate(), l, api.RC4, 5, nil, api.ErrMethod},
		{sample.Estate(), nil, api.DHE, 5, nil, api.OK},
		{sample.Estate(), l, api.MD5, 5, nil, api.ErrMethod},
		{sample.Estate(), l, api.MD5, 2, nil, api.OK},
		{sample.Estate(), l, api.MD5, 5, []api.Exception{permit(t, md5(), 1, "a")}, api.OK},
		{wrong, slices.Concat(l, l), 0, -1, make([]api.Exception, 1), api.ErrEstate},
	} {
		if e := gone.Retired(x.e, x.l, 1, x.day, 9, x.alg, x.x, owners()); e != x.want {
			t.Errorf("%d, %d: %v", x.alg, x.day, e)
		}
	}
}

func TestMoreExceptions(t *testing.T) { // consequence: what is covered stays so
	r := rand.New(rand.NewSource(1))
	hosts := []string{"a", "b", "c"}
	for range 300 {
		var l []api.Finding
		var x []api.Exception
		for range r.Intn(8) {
			l = append(l, at(hosts[r.Intn(3)], r.Intn(3), r.Intn(8), []int{api.FindUse, api.FindOff}[r.Intn(2)], md5(), 0))
		}
		for range 1 + r.Intn(3) {
			x = append(x, permit(t, md5(), 1, hosts[r.Intn(3)]))
		}
		l = norm(t, l...)
		day := r.Intn(10)
		less, _ := gone.All(l, 2, day, 5, api.MD5, x[:len(x)-1], owners())
		more, _ := gone.All(l, 2, day, 5, api.MD5, x, owners())
		for i := range less {
			if less[i].Finding != more[i].Finding || less[i].Covered && !more[i].Covered || i > 0 && less[i].Finding <= less[i-1].Finding {
				t.Fatalf("%v, %v", less, more)
			}
		}
		day1, ok, _ := gone.First(l, 2, 5, api.MD5, x, owners(), []int{day})
		if is, _ := gone.Gone(l, 2, day, 5, api.MD5, x, owners()); is != ok || ok && day1 != day {
			t.Fatalf("%v, %v", is, ok)
		}
	}
}

func TestMemory(t *testing.T) { // R3
	l, x, e := norm(t, at("a", 1, 3, api.FindUse, md5(), 0)), []api.Exception{permit(t, md5(), 1, "a")}, sample.Estate()
	apart(t, "All", func() []api.Evidence { a, _ := gone.All(l, 1, 3, 9, api.MD5, x, owners()); return a }, l, x)
	apart(t, "Possible", func() []int { a, _ := gone.Possible(e, api.RC4); return a }, e)
}
