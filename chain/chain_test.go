package chain_test

import (
	"cipherplan/api"
	"cipherplan/certificate"
	"cipherplan/chain"
	"cipherplan/sample"
	"math"
	"math/rand"
	"reflect"
	"slices"
	"testing"
)

const day = 100

// three returns a leaf, the authority that issued it, and one that issued this; the anchor 1000 has sealed the last one.
func three() []api.Certificate {
	leaf := sample.Leaf("web", sample.RSA(), 1, 2)
	leaf.Issuer = "low"
	low := sample.Authority("low", 2, 3)
	low.Issuer, low.Path = "high", 0
	high := sample.Authority("high", 3, sample.Anchor)
	high.Path = 1
	return []api.Certificate{sample.Sealed(leaf, 2), sample.Sealed(low, 3), sample.Sealed(high, sample.Anchor)}
}

// with returns the chain with one certificate changed, and sealed again.
func with(at int, f func(*api.Certificate)) []api.Certificate {
	l := three()
	f(&l[at])
	l[at] = sample.Sealed(l[at], l[at].Seal.Key)
	return l
}

func check(l []api.Certificate) api.Errno {
	return chain.Check(l, []int{5, sample.Anchor}, []int{api.SHA1, api.SHA256}, day, "web")
}

func TestCheck(t *testing.T) { // P4.2
	l := three()
	long := append(slices.Repeat(l[1:2], 7), l[2])
	unsealed := three()
	unsealed[2].Seal.Sum++
	invalid := three()
	invalid[1].Serial = -1
	cases := map[string]struct {
		l    []api.Certificate
		want api.Errno
	}{
		"right":                  {l, api.OK},
		"a leaf alone":           {[]api.Certificate{sample.Leaf("web", sample.RSA(), 1, sample.Anchor)}, api.OK},
		"none":                   {nil, api.ErrNone},
		"nine":                   {append(l[:1:1], long...), api.ErrLimit},
		"not valid":              {invalid, api.ErrCert},
		"another name":           {with(0, func(c *api.Certificate) { c.Names = []string{"weba"} }), api.ErrName},
		"no name":                {with(0, func(c *api.Certificate) { c.Names = nil }), api.ErrName},
		"too early":              {with(1, func(c *api.Certificate) { c.From = day + 1 }), api.ErrDays},
		"the first day":          {with(1, func(c *api.Certificate) { c.From = day }), api.OK},
		"too late":               {with(2, func(c *api.Certificate) { c.To = day }), api.ErrDays},
		"the last day":           {with(2, func(c *api.Certificate) { c.To = day + 1 }), api.OK},
		"another hash":           {with(2, func(c *api.Certificate) { c.Hash.Alg = api.MD5 }), api.ErrUse},
		"another issuer":         {with(0, func(c *api.Certificate) { c.Issuer = "high" }), api.ErrIssuer},
		"any issuer of the last": {with(2, func(c *api.Certificate) { c.Issuer = "x" }), api.OK},
		"no authority":           {with(1, func(c *api.Certificate) { c.Authority = false }), api.ErrPath},
		"a short path":           {with(2, func(c *api.Certificate) { c.Path = 0 }), api.ErrPath},
		"a leaf with authority":  {with(0, func(c *api.Certificate) { c.Authority = true }), api.OK},
		"another key":            {with(0, func(c *api.Certificate) { c.Seal.Key = 3 }), api.ErrSeal},
		"another sum":            {unsealed, api.ErrSeal},
		"another anchor":         {with(2, func(c *api.Certificate) { c.Seal.Key = 6 }), api.ErrAnchor},
		"without the end":        {l[:2], api.ErrAnchor},
	}
	for name, x := range cases {
		if e := check(x.l); e != x.want {
			t.Errorf("%s: %v, not %v", name, e, x.want)
		}
	}
	if e := chain.Check(l, nil, []int{api.SHA256}, day, "web"); e != api.ErrAnchor {
		t.Errorf("no anchors: %v", e)
	}
	if e := chain.Check(l, []int{sample.Anchor}, nil, day, "web"); e != api.ErrUse {
		t.Errorf("no hashes: %v", e)
	}
	for _, d := range []int{-1, sample.Last, math.MaxInt, math.MinInt} {
		if e := chain.Check(l, []int{sample.Anchor}, []int{api.SHA256}, d, "web"); e != api.ErrDays {
			t.Errorf("day %d: %v", d, e)
		}
	}
}

func TestOrderOfErrors(t *testing.T) { // P4.2: the first error counts, at whichever certificate it is
	l := three()
	breaks := []struct {
		f    func()
		want api.Errno
	}{
		{func() { l[2].Seal.Key = 6; l[2] = sample.Sealed(l[2], 6) }, api.ErrAnchor},
		{func() { l[2].Seal.Sum ^= 1 }, api.ErrSeal},
		{func() { l[2].Path = 0 }, api.ErrPath},
		{func() { l[1].Issuer = "x" }, api.ErrIssuer},
		{func() { l[2].Hash.Alg = api.MD5 }, api.ErrUse},
		{func() { l[2].To = day }, api.ErrDays},
		{func() { l[0].Names = nil }, api.ErrName},
		{func() { l[2].KeyId = -1 }, api.ErrCert},
		{func() { l = slices.Repeat(l, 3) }, api.ErrLimit},
	}
	for _, b := range breaks {
		b.f()
		if e := check(l); e != b.want {
			t.Errorf("%v, not %v", e, b.want)
		}
	}
}

func TestPath(t *testing.T) { // P4.1
	a := func(authority bool, path int) api.Certificate {
		return api.Certificate{Authority: authority, Path: path}
	}
	l := []api.Certificate{a(false, 0), a(true, 0), a(true, 0), a(true, 2), a(false, 8)}
	for at, want := range map[int]bool{0: true, 1: true, 2: false, 3: true, 4: false, 5: false, -1: false, math.MaxInt: false, math.MinInt: false} {
		if chain.Path(l, at) != want {
			t.Errorf("%d: %v", at, !want)
		}
	}
}

func TestUntil(t *testing.T) { // P4.4
	if n := chain.Until(nil); n != 0 {
		t.Error(n)
	}
	for i := range 3 {
		l := with(i, func(c *api.Certificate) { c.To = 500 })
		if n := chain.Until(l); n != 500 {
			t.Errorf("%d: %d", i, n)
		}
	}
}

// best builds a chain as the chapter says it, by trying all rows.
func best(leaf api.Certificate, pool []api.Certificate, anchors, hashes []int) []int {
	rows := [][]int{{}}
	for len(rows) > 0 {
		var longer [][]int
		for _, row := range rows {
			l := []api.Certificate{leaf}
			for _, i := range row {
				l = append(l, pool[i])
			}
			if chain.Check(l, anchors, hashes, day, "web") == api.OK {
				return row
			}
			for i := range pool {
				if !slices.Contains(row, i) && len(row) < 7 {
					longer = append(longer, append(slices.Clone(row), i))
				}
			}
		}
		rows = longer
	}
	return nil
}

func TestBuild(t *testing.T) { // P4.3
	l := three()
	got, e := chain.Build(l[0], []api.Certificate{l[2], l[0], l[1]}, []int{sample.Anchor}, []int{api.SHA256}, day, "web")
	if e != api.OK || !slices.EqualFunc(got, l, certificate.Same) {
		t.Errorf("%v, %v", got, e)
	}
	pool := slices.Repeat(l[1:2], 9)
	if got, e := chain.Build(l[0], pool, []int{sample.Anchor}, []int{api.SHA256}, day, "web"); e != api.ErrLimit || len(got) > 0 {
		t.Errorf("nine: %v, %v", got, e)
	}
	if got, e := chain.Build(l[0], pool[:8], []int{sample.Anchor}, []int{api.SHA256}, day, "web"); e != api.ErrNone || len(got) > 0 {
		t.Errorf("none: %v, %v", got, e)
	}
	for _, x := range []struct{ from, to int }{{day, day + 1}, {0, day}, {day + 1, day + 2}} {
		c := sample.Leaf("web", sample.RSA(), 1, sample.Anchor)
		c.From, c.To = x.from, x.to
		got, e := chain.Build(sample.Sealed(c, sample.Anchor), nil, []int{sample.Anchor}, []int{api.SHA256}, day, "web")
		if want := x.from <= day && day < x.to; (len(got) == 1) != want || (e == api.OK) != want {
			t.Errorf("%v: %v, %v", x, got, e)
		}
	}
	alone := sample.Leaf("web", sample.RSA(), 1, sample.Anchor)
	if got, e := chain.Build(alone, l, []int{sample.Anchor}, []int{api.SHA256}, day, "web"); e != api.OK || len(got) != 1 {
		t.Errorf("alone: %v, %v", got, e)
	}
	if _, e := chain.Build(alone, l, []int{sample.Anchor}, []int{api.SHA256}, day, "app"); e != api.ErrNone {
		t.Errorf("name: %v", e)
	}
}

func TestLongest(t *testing.T) { // P4.3: a chain of MaxChain certificates is found, a longer one is not
	leaf := sample.Leaf("web", sample.RSA(), 1, 2)
	var pool []api.Certificate
	for i := 2; i <= 9; i++ {
		c := sample.Authority("ca", i, i+1)
		c.Issuer, c.Path = "ca", 8
		pool = append(pool, sample.Sealed(c, i+1))
	}
	for last, want := range map[int]int{9: 8, 10: 0} {
		l, e := chain.Build(leaf, pool, []int{last}, []int{api.SHA256}, day, "web")
		if f := chain.Check(append([]api.Certificate{leaf}, pool[:last-2]...), []int{last}, []int{api.SHA256}, day, "web"); (f == api.OK) != (want > 0) || f != api.OK && f != api.ErrLimit {
			t.Errorf("%d: %v", last, f)
		}
		if len(l) != want || (e == api.OK) != (want > 0) {
			t.Errorf("%d: %d, %v", last, len(l), e)
		}
	}
}

func TestBuildAtRandom(t *testing.T) { // P4.3
	r := rand.New(rand.NewSource(1))
	found := map[int]int{}
	for range 3000 {
		var pool []api.Certificate
		for range r.Intn(6) {
			pool = append(pool, random(r, "ca"))
		}
		leaf := random(r, "web")
		anchors, hashes := []int{3}, []int{api.SHA256}
		want := best(leaf, pool, anchors, hashes)
		l, e := chain.Build(leaf, pool, anchors, hashes, day, "web")
		if (e == api.OK) != (want != nil) || e != api.OK && (e != api.ErrNone || len(l) > 0) {
			t.Fatalf("%v, %v, not %v", l, e, want)
		}
		if e != api.OK {
			continue
		}
		found[len(l)]++
		if len(l) != len(want)+1 || !certificate.Same(l[0], leaf) {
			t.Fatalf("%v, not %v", l, want)
		}
		for i, at := range want {
			if !certificate.Same(l[i+1], pool[at]) {
				t.Fatalf("%v, not %v", l, want)
			}
		}
	}
	if found[1] == 0 || found[2] == 0 || found[3] == 0 || found[4] == 0 {
		t.Errorf("the samples are too easy: %v", found)
	}
}

// random returns a certificate that often fits to others.
func random(r *rand.Rand, subject string) api.Certificate {
	c := sample.Authority(subject, r.Intn(3), 0)
	c.Serial, c.Issuer, c.Path = r.Intn(1000), "ca", r.Intn(4)
	c.Names = []string{"web"}
	switch r.Intn(20) {
	case 0:
		c.Authority, c.Path = false, 0
	case 1:
		c.To = day
	case 2:
		c.Hash.Alg = api.SHA1
	case 3:
		c.Issuer = "x"
	}
	c = sample.Sealed(c, r.Intn(4))
	if r.Intn(20) == 0 {
		c.Seal.Sum ^= 1
	}
	return c
}

func TestManyChains(t *testing.T) { // R1: pools in which everybody has issued everybody
	c := sample.Authority("ca", 1, 1)
	c.Issuer, c.Path, c.Names = "ca", 8, []string{"web"}
	c = sample.Sealed(c, 1)
	for range 20 {
		if l, e := chain.Build(c, slices.Repeat([]api.Certificate{c}, 8), []int{2}, []int{api.SHA256}, day, "web"); e != api.ErrNone || l != nil {
			t.Fatalf("%v, %v", l, e)
		}
	}
}

func TestMoreIsNoWorse(t *testing.T) { // consequences
	l := three()
	if e := chain.Check(l, []int{1, 2, sample.Anchor, 3}, []int{1, 2, 3, 4}, day, "web"); e != api.OK {
		t.Error(e)
	}
	for d := 0; d < sample.Last; d += 1000 {
		if e := chain.Check(l, []int{sample.Anchor}, []int{api.SHA256}, d, "web"); e != api.OK {
			t.Errorf("%d: %v", d, e)
		}
	}
}

func TestMemory(t *testing.T) { // R3
	l := three()
	anchors, hashes := []int{sample.Anchor}, []int{api.SHA256}
	apart(t, "Build", func() []api.Certificate {
		b, _ := chain.Build(l[0], l[1:], anchors, hashes, day, "web")
		return b
	}, l, anchors, hashes)
	if got, e := chain.Build(api.Certificate{}, []api.Certificate{}, []int{}, nil, day, ""); e != api.ErrNone || !reflect.DeepEqual(got, []api.Certificate(nil)) {
		t.Errorf("%v, %v", got, e)
	}
}
