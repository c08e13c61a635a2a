package finding_test

import (
	"cipherplan/api"
	"cipherplan/finding"
	"cipherplan/sample"
	"math"
	"math/rand"
	"slices"
	"strings"
	"testing"
)

// at returns a finding of a kind.
func at(kind int, u api.Use, number int, text string) api.Finding {
	return api.Finding{Source: api.SourceHuman, Host: "web", Machine: 7, Day: 100, Confidence: 50, Kind: kind, Subject: "tls", Use: u, Number: number, Text: text}
}

func with(f func(*api.Finding)) api.Finding {
	x := at(api.FindPeer, api.Use{}, 0, "db")
	f(&x)
	return x
}

func md5() api.Use { return api.Use{Alg: api.MD5} }

func TestCheck(t *testing.T) { // P14.1
	long := strings.Repeat("x", 33)
	none, key := api.Use{}, sample.RSA()
	valid := []api.Finding{
		at(api.FindUse, key, 0, ""), at(api.FindOff, md5(), 0, ""), at(api.FindSuite, none, 0, ""), at(api.FindSuite, none, 65535, ""),
		at(api.FindKey, key, 0, ""), at(api.FindKey, key, api.MaxKey, ""), at(api.FindMost, none, 1, ""), at(api.FindLeast, none, 4, ""),
		at(api.FindTrust, none, api.MaxKey, ""), at(api.FindTrust, none, 0, ""), at(api.FindPeer, none, 0, long[:32]),
		with(func(f *api.Finding) { f.Machine, f.Day, f.Confidence, f.Source = 0, 0, 1, 1 }),
		with(func(f *api.Finding) { f.Machine, f.Day, f.Confidence = api.MaxNumber, api.MaxDay, 100 }),
	}
	for _, f := range valid {
		if e := finding.Check(f); e != api.OK {
			t.Errorf("%+v: %v", f, e)
		}
	}
	wrong := []api.Finding{
		{},
		at(api.FindUse, none, 0, ""), at(api.FindUse, key, 1, ""), at(api.FindUse, key, 0, "x"), at(api.FindUse, api.Use{Alg: api.RSA, Bits: 5}, 0, ""),
		at(api.FindOff, none, 0, ""), at(api.FindOff, key, 1, ""), at(api.FindOff, key, 0, "x"),
		at(api.FindSuite, key, 1, ""), at(api.FindSuite, none, -1, ""), at(api.FindSuite, none, 65536, ""), at(api.FindSuite, none, 1, "x"),
		at(api.FindKey, none, 1, ""), at(api.FindKey, md5(), 1, ""), at(api.FindKey, key, -1, ""), at(api.FindKey, key, api.MaxKey+1, ""), at(api.FindKey, key, 1, "x"),
		at(api.FindMost, none, 0, ""), at(api.FindMost, none, 5, ""), at(api.FindMost, key, 1, ""), at(api.FindMost, none, 1, "x"),
		at(api.FindLeast, none, 0, ""), at(api.FindLeast, none, 5, ""), at(api.FindLeast, key, 1, ""),
		at(api.FindTrust, none, -1, ""), at(api.FindTrust, none, api.MaxKey+1, ""), at(api.FindTrust, key, 1, ""), at(api.FindTrust, none, 1, "x"),
		at(api.FindPeer, none, 0, ""), at(api.FindPeer, none, 1, "x"), at(api.FindPeer, key, 0, "x"), at(api.FindPeer, none, 0, "a b"), at(api.FindPeer, none, 0, long),
		at(0, none, 0, ""), at(9, none, 0, ""), at(-1, none, 0, ""),
		with(func(f *api.Finding) { f.Source = 0 }), with(func(f *api.Finding) { f.Source = 8 }),
		with(func(f *api.Finding) { f.Host = "" }), with(func(f *api.Finding) { f.Host = "a b" }),
		with(func(f *api.Finding) { f.Machine = -1 }), with(func(f *api.Finding) { f.Machine = api.MaxNumber + 1 }),
		with(func(f *api.Finding) { f.Day = -1 }), with(func(f *api.Finding) { f.Day = api.MaxDay + 1 }),
		with(func(f *api.Finding) { f.Confidence = 0 }), with(func(f *api.Finding) { f.Confidence = 101 }),
		with(func(f *api.Finding) { f.Subject = "" }), with(func(f *api.Finding) { f.Subject = long }),
	}
	for _, f := range wrong {
		if e := finding.Check(f); e != api.ErrFinding {
			t.Errorf("%+v: %v", f, e)
		}
		if l, e := finding.Norm([]api.Finding{valid[0], f}); e != api.ErrFinding || len(l) > 0 {
			t.Errorf("%+v: %v", f, e)
		}
	}
}

// ascending returns findings each of which comes before the next one, for another field each.
func ascending() []api.Finding {
	later := []func(*api.Finding){
		func(f *api.Finding) { f.Confidence++ }, func(f *api.Finding) { f.Source++ }, func(f *api.Finding) { f.Text += "x" }, func(f *api.Finding) { f.Number++ },
		func(f *api.Finding) { f.Use.Bits++ }, func(f *api.Finding) { f.Use.Alg++ }, func(f *api.Finding) { f.Kind++ }, func(f *api.Finding) { f.Subject += "x" },
		func(f *api.Finding) { f.Day++ }, func(f *api.Finding) { f.Machine++ }, func(f *api.Finding) { f.Host += "x" },
	}
	high := api.Finding{Source: 9, Host: "h", Machine: 9, Day: 9, Confidence: 9, Kind: 9, Subject: "s", Use: api.Use{Alg: 9, Bits: 9}, Number: 9, Text: "t"}
	l := []api.Finding{high}
	for i := range later {
		x := high
		later[i](&x)
		for _, f := range later[:i] { // all lesser fields are less
			y := api.Finding{}
			f(&y)
			x.Confidence -= 2 * y.Confidence
			x.Source -= 2 * y.Source
			x.Number -= 2 * y.Number
			x.Use.Bits -= 2 * y.Use.Bits
			x.Use.Alg -= 2 * y.Use.Alg
			x.Kind -= 2 * y.Kind
			x.Day -= 2 * y.Day
			x.Machine -= 2 * y.Machine
		}
		l = append(l, x)
	}
	return l
}

func TestOrder(t *testing.T) { // P14.1
	l := ascending()
	for i, a := range l {
		for k, b := range l {
			want := 0
			if i < k {
				want = -1
			} else if i > k {
				want = 1
			}
			if n := finding.Order(a, b); n != want {
				t.Errorf("%d, %d: %d", i, k, n)
			}
		}
	}
	far := api.Finding{Day: math.MinInt}
	if finding.Order(far, api.Finding{Day: math.MaxInt}) != -1 {
		t.Error("far days")
	}
}

// some returns findings of many days.
func some(from, to int) []api.Finding {
	var l []api.Finding
	for i := from; i < to; i++ {
		l = append(l, with(func(f *api.Finding) { f.Day = i }))
	}
	return l
}

func TestNorm(t *testing.T) { // P14.1
	l := some(0, 10)
	r := rand.New(rand.NewSource(1))
	m := slices.Concat(l, l[3:5], l)
	r.Shuffle(len(m), func(i, j int) { m[i], m[j] = m[j], m[i] })
	if n, e := finding.Norm(m); e != api.OK || !slices.Equal(n, l) {
		t.Errorf("%v, %v", n, e)
	}
	if n, e := finding.Norm(slices.Concat(some(0, 400), some(0, 400))); e != api.OK || len(n) != 400 {
		t.Errorf("%d, %v", len(n), e)
	}
	if n, e := finding.Norm(some(0, 401)); e != api.ErrLimit || len(n) > 0 {
		t.Errorf("%d, %v", len(n), e)
	}
	if n, e := finding.Norm(append(some(0, 500), api.Finding{})); e != api.ErrFinding || len(n) > 0 {
		t.Errorf("%d, %v", len(n), e)
	}
	if n, e := finding.Norm(nil); e != api.OK || len(n) > 0 {
		t.Errorf("%d, %v", len(n), e)
	}
}

func TestMerge(t *testing.T) { // P14.1 and consequence
	a, b, c := some(0, 5), some(3, 9), some(7, 12)
	ab, e := finding.Merge(a, b)
	ba, _ := finding.Merge(b, a)
	if e != api.OK || !slices.Equal(ab, some(0, 9)) || !slices.Equal(ab, ba) {
		t.Errorf("%v, %v", ab, e)
	}
	bc, _ := finding.Merge(b, c)
	x, _ := finding.Merge(ab, c)
	y, _ := finding.Merge(a, bc)
	z, _ := finding.Merge(x, x)
	if !slices.Equal(x, y) || !slices.Equal(x, z) || !slices.Equal(x, some(0, 12)) {
		t.Errorf("%v, %v", x, y)
	}
	if l, e := finding.Merge(a, []api.Finding{{}}); e != api.ErrFinding || len(l) > 0 {
		t.Error(e)
	}
	if l, e := finding.Merge(some(0, 300), some(300, 401)); e != api.ErrLimit || len(l) > 0 {
		t.Error(e)
	}
}

// norm returns findings in their order.
func norm(t *testing.T, l ...api.Finding) []api.Finding {
	t.Helper()
	n, e := finding.Norm(l)
	if e != api.OK {
		t.Fatal(e)
	}
	return n
}

func TestFromEndpoint(t *testing.T) { // P14.2
	e := sample.Endpoint("other", 5, 10, 2)
	e.Identities = append(e.Identities, e.Identities[0])
	none := api.Use{}
	want := norm(t, at(api.FindLeast, none, 1, ""), at(api.FindMost, none, 3, ""), at(api.FindSuite, none, 10, ""), at(api.FindSuite, none, 2, ""), at(api.FindKey, sample.RSA(), 5, ""), at(api.FindTrust, none, sample.Anchor, ""), at(api.FindUse, api.Use{Alg: api.SHA1}, 0, ""), at(api.FindUse, api.Use{Alg: api.SHA256}, 0, ""))
	for _, f := range []api.Finding{at(api.FindPeer, md5(), 9, "x"), at(0, none, 0, "")} {
		if l, f := finding.FromEndpoint(f, e); f != api.OK || !slices.Equal(l, want) {
			t.Errorf("%v, %v", l, f)
		}
	}
	e.Least = 9
	if l, f := finding.FromEndpoint(at(0, none, 0, ""), e); f != api.ErrEndpoint || len(l) > 0 {
		t.Errorf("%v, %v", l, f)
	}
}

func TestFromStore(t *testing.T) { // P14.2
	l := []api.Entry{{Alias: "a", Key: sample.RSA(), KeyId: 5}, {Alias: "b", Key: sample.RSA(), KeyId: 5}, {Alias: "c", Key: api.Use{Alg: api.ED25519}, KeyId: 5}}
	want := norm(t, at(api.FindKey, sample.RSA(), 5, ""), at(api.FindKey, api.Use{Alg: api.ED25519}, 5, ""))
	if m, e := finding.FromStore(with(func(*api.Finding) {}), l); e != api.OK || !slices.Equal(m, want) {
		t.Errorf("%v, %v", m, e)
	}
	if m, e := finding.FromStore(with(func(*api.Finding) {}), l[1:2]); e != api.OK || len(m) != 1 {
		t.Errorf("%v, %v", m, e)
	}
	slices.Reverse(l)
	if m, e := finding.FromStore(with(func(*api.Finding) {}), l); e != api.ErrKeystore || len(m) > 0 {
		t.Errorf("%v, %v", m, e)
	}
}

func TestFromUses(t *testing.T) { // P14.2
	var many []api.Use
	for i := range 401 {
		many = append(many, api.Use{Alg: api.RSA, Bits: 512 + i})
	}
	x := with(func(*api.Finding) {})
	if l, e := finding.FromUses(x, []api.Use{sample.RSA(), md5(), md5()}); e != api.OK || !slices.Equal(l, norm(t, at(api.FindUse, sample.RSA(), 0, ""), at(api.FindUse, md5(), 0, ""))) {
		t.Errorf("%v, %v", l, e)
	}
	if l, e := finding.FromUses(x, many[:400]); e != api.OK || len(l) != 400 {
		t.Errorf("%d, %v", len(l), e)
	}
	if l, e := finding.FromUses(x, many); e != api.ErrLimit || len(l) > 0 {
		t.Errorf("%d, %v", len(l), e)
	}
	if l, e := finding.FromUses(x, append(many, api.Use{})); e != api.ErrUse || len(l) > 0 {
		t.Errorf("%d, %v", len(l), e)
	}
	if l, e := finding.FromUses(x, nil); e != api.OK || len(l) > 0 {
		t.Errorf("%d, %v", len(l), e)
	}
}

func TestFromCapture(t *testing.T) { // P14.2
	x, none := with(func(*api.Finding) {}), api.Use{}
	h := api.Hello{Most: 4, Suites: []int{8, 10}}
	want := norm(t, at(api.FindSuite, none, 8, ""), at(api.FindMost, none, 3, ""), at(api.FindUse, api.Use{Alg: api.AESCBC, Bits: 128}, 0, ""), at(api.FindUse, api.Use{Alg: api.HMACSHA1}, 0, ""))
	if l, e := finding.FromCapture(x, h, api.Choice{Version: 3, Suite: 8, KeyId: 5}); e != api.OK || !slices.Equal(l, want) {
		t.Errorf("%v, %v", l, e)
	}
	want = norm(t, at(api.FindSuite, none, 999, ""), at(api.FindMost, none, 1, ""))
	if l, e := finding.FromCapture(x, h, api.Choice{Version: 1, Suite: 999}); e != api.OK || !slices.Equal(l, want) {
		t.Errorf("%v, %v", l, e)
	}
	if l, e := finding.FromCapture(x, h, api.Choice{}); e != api.ErrMessage || len(l) > 0 {
		t.Errorf("%v, %v", l, e)
	}
	if l, e := finding.FromCapture(x, api.Hello{}, api.Choice{Version: 1}); e != api.ErrMessage || len(l) > 0 {
		t.Errorf("%v, %v", l, e)
	}
}

func TestFromNowhere(t *testing.T) { // P14.2: ErrFinding comes first
	for _, x := range []api.Finding{{}, with(func(f *api.Finding) { f.Host = "" }), with(func(f *api.Finding) { f.Day = -1 }), with(func(f *api.Finding) { f.Confidence = 0 }), with(func(f *api.Finding) { f.Source = 9 }), with(func(f *api.Finding) { f.Machine = -1 }), with(func(f *api.Finding) { f.Subject = " " })} {
		_, e1 := finding.FromEndpoint(x, api.Endpoint{})
		_, e2 := finding.FromStore(x, make([]api.Entry, 1))
		_, e3 := finding.FromUses(x, make([]api.Use, 1))
		_, e4 := finding.FromCapture(x, api.Hello{}, api.Choice{})
		if e1 != api.ErrFinding || e2 != api.ErrFinding || e3 != api.ErrFinding || e4 != api.ErrFinding {
			t.Errorf("%+v: %v, %v, %v, %v", x, e1, e2, e3, e4)
		}
	}
}

func TestMemory(t *testing.T) { // R3
	a, b := some(0, 5), some(3, 9)
	apart(t, "Norm", func() []api.Finding { l, _ := finding.Norm(a); return l }, a)
	apart(t, "Merge", func() []api.Finding { l, _ := finding.Merge(a, b); return l }, a, b)
	apart(t, "Merge with none", func() []api.Finding { l, _ := finding.Merge(a, nil); return l }, a)
}
