package renewal_test

import (
	"cipherplan/api"
	"cipherplan/lifetime"
	"cipherplan/renewal"
	"cipherplan/rule"
	"cipherplan/verdict"
	"math"
	"math/rand"
	"reflect"
	"slices"
	"testing"
)

func use(alg int) api.Use { return api.Use{Alg: alg} }

func link(alg, day int) api.Link { return api.Link{Use: use(alg), Day: day} }

func policy(t *testing.T, text string) api.Policy {
	t.Helper()
	p, _, e := rule.Parse(text)
	if e != api.OK {
		t.Fatal(e)
	}
	return p
}

// law is that of the chapter's example: md5 falls on day 9, sha256 on day 100, sha384 is allowed from day 50 on.
func law(t *testing.T) api.Policy {
	return policy(t, "forbid md5 from 9\nforbid sha256 from 100\nforbid sha384 until 50")
}

func signed(until int, links ...api.Link) api.Item {
	return api.Item{Name: "x", Kind: api.ItemSigned, Purpose: api.PurposeSign, Links: links, Until: until}
}

func TestBest(t *testing.T) { // P35.1
	md5, sha256, sha384, ed := use(api.MD5), use(api.SHA256), use(api.SHA384), use(api.ED25519)
	p := law(t)
	for name, x := range map[string]struct {
		uses     []api.Use
		from, to int
		want     api.Link
		ok       bool
	}{
		"the one that falls last":   {[]api.Use{md5, sha256}, 3, 50, link(api.SHA256, 3), true},
		"without a fall":            {[]api.Use{sha256, sha384}, 3, 60, link(api.SHA384, 50), true},
		"not yet allowed":           {[]api.Use{sha256, sha384}, 3, 49, link(api.SHA256, 3), true},
		"the least day":             {[]api.Use{sha384, ed}, 3, 60, link(api.ED25519, 3), true},
		"the first in the list":     {[]api.Use{sha384, ed}, 55, 60, link(api.SHA384, 55), true},
		"the first, another way":    {[]api.Use{ed, sha384}, 55, 60, link(api.ED25519, 55), true},
		"fallen":                    {[]api.Use{md5}, 9, 60, api.Link{}, false},
		"on the last day":           {[]api.Use{md5}, 8, 60, link(api.MD5, 8), true},
		"none":                      {nil, 8, 60, api.Link{}, false},
		"no days":                   {[]api.Use{ed}, 8, 7, api.Link{}, false},
		"one day":                   {[]api.Use{ed}, 8, 8, link(api.ED25519, 8), true},
		"all days":                  {[]api.Use{ed}, 0, api.MaxDay, link(api.ED25519, 0), true},
		"behind all days":           {[]api.Use{ed}, math.MaxInt, api.MaxDay, api.Link{}, false},
		"long before":               {[]api.Use{ed}, 0, math.MinInt, api.Link{}, false},
		"allowed on the last day":   {[]api.Use{sha384}, 0, 50, link(api.SHA384, 50), true},
		"allowed just too late":     {[]api.Use{sha384}, 0, 49, api.Link{}, false},
		"a fall later than another": {[]api.Use{md5, sha256, md5}, 0, 5, link(api.SHA256, 0), true},
	} {
		l, ok, e := renewal.Best(p, x.uses, api.PurposeSign, x.from, x.to)
		if l != x.want || ok != x.ok || e != api.OK {
			t.Errorf("%s: %v, %v, %v", name, l, ok, e)
		}
	}
	for purpose := 1; purpose <= api.Purposes; purpose++ {
		if l, ok, e := renewal.Best(p, []api.Use{ed}, purpose, 3, 4); l != link(api.ED25519, 3) || !ok || e != api.OK {
			t.Errorf("%d: %v, %v, %v", purpose, l, ok, e)
		}
	}
	if l, e := renewal.Schedule(p, signed(8, link(api.MD5, 1)), nil, api.MaxDay); len(l) > 0 || e != api.OK {
		t.Errorf("%v, %v", l, e)
	}
	bad := api.Policy{Rules: []api.Rule{{}}}
	for _, x := range []struct {
		p                 api.Policy
		uses              []api.Use
		purpose, from, to int
		want              api.Errno
	}{{bad, []api.Use{{}}, 0, -1, 1, api.ErrRule}, {p, []api.Use{md5, {}}, 0, -1, 1, api.ErrUse}, {p, nil, 0, 1, 1, api.ErrRange}, {p, nil, 5, 1, 1, api.ErrRange}, {p, nil, 1, -1, 1, api.ErrRange}, {p, nil, 1, 1, api.MaxDay + 1, api.ErrRange}} {
		if l, ok, e := renewal.Best(x.p, x.uses, x.purpose, x.from, x.to); e != x.want || ok || l != (api.Link{}) {
			t.Errorf("%v: %v", x, e)
		}
	}
}

func TestBestAtRandom(t *testing.T) { // P35.1: day by day, and use by use
	r := rand.New(rand.NewSource(1))
	for range 300 {
		var p api.Policy
		for range r.Intn(8) {
			from := r.Intn(20)
			p.Rules = append(p.Rules, api.Rule{Allow: r.Intn(2) == 0, Alg: r.Intn(4), From: from, To: []int{from + 1 + r.Intn(10), api.MaxDay + 1}[r.Intn(2)]})
		}
		uses := []api.Use{use(1 + r.Intn(3)), use(1 + r.Intn(3)), use(1 + r.Intn(3))}
		from, to := r.Intn(20), r.Intn(25)
		var want api.Link
		found, last := false, 0
		for day := from; day <= to; day++ {
			for _, u := range uses {
				fall, falls, _ := verdict.Falls(p, u, 1)
				if !falls {
					fall = 1 << 60
				}
				if ok, _, _ := verdict.Allowed(p, u, 1, day); ok && (!found || fall > last) {
					want, found, last = api.Link{Use: u, Day: day}, true, fall
				}
			}
		}
		if l, ok, e := renewal.Best(p, uses, 1, from, to); l != want || ok != found || e != api.OK {
			t.Fatalf("%v, %v, %d to %d: %v, %v, not %v", p, uses, from, to, l, ok, want)
		}
	}
}

func TestHolds(t *testing.T) { // P35.2
	secret := signed(200, link(api.MD5, 1))
	secret.Kind = api.ItemSecret
	for name, x := range map[string]struct {
		i     api.Item
		holds bool
		reach int
	}{
		"fails":        {signed(9, link(api.MD5, 1)), false, 8},
		"long enough":  {signed(8, link(api.MD5, 1)), true, 8},
		"for ever":     {signed(200, link(api.SHA384, 1)), true, api.MaxDay},
		"renewed":      {signed(200, link(api.MD5, 1), link(api.SHA256, 8)), false, 99},
		"renewed late": {signed(200, link(api.MD5, 1), link(api.SHA256, 9)), false, 8},
		"a secret":     {secret, false, 8},
	} {
		ok, e := renewal.Holds(law(t), x.i)
		n, f := renewal.Reach(law(t), x.i)
		if ok != x.holds || n != x.reach || e != api.OK || f != api.OK {
			t.Errorf("%s: %v, %v; %d, %v", name, ok, e, n, f)
		}
	}
	bad := api.Policy{Rules: []api.Rule{{}}}
	for _, x := range []struct {
		p    api.Policy
		i    api.Item
		want api.Errno
	}{{bad, api.Item{}, api.ErrRule}, {law(t), api.Item{}, api.ErrItem}} {
		ok, e := renewal.Holds(x.p, x.i)
		n, f := renewal.Reach(x.p, x.i)
		l, g := renewal.Schedule(x.p, x.i, []api.Use{{}}, -1)
		if e != x.want || f != x.want || g != x.want || ok || n+len(l) != 0 {
			t.Errorf("%v, %v, %v", e, f, g)
		}
	}
}

func TestApply(t *testing.T) { // P35.2
	i := signed(200, link(api.MD5, 1))
	want := signed(200, link(api.MD5, 1), link(99, -5), link(api.MD5, 1))
	if got := renewal.Apply(i, []api.Link{link(99, -5), link(api.MD5, 1)}); !reflect.DeepEqual(got, want) {
		t.Errorf("%v", got)
	}
	if got := renewal.Apply(api.Item{}, nil); !reflect.DeepEqual(got, api.Item{}) {
		t.Errorf("%v", got)
	}
}

func TestSchedule(t *testing.T) { // P35.3
	full := signed(200)
	for day := 1; day < 9; day++ {
		full.Links = append(full.Links, link(api.MD5, day-1))
	}
	full.Links[7].Day = 7
	secret := signed(200, link(api.MD5, 1))
	secret.Kind = api.ItemSecret
	sha := []api.Use{use(api.SHA256), use(api.SHA384)}
	for name, x := range map[string]struct {
		i    api.Item
		uses []api.Use
		from int
		want []api.Link
		e    api.Errno
	}{
		"example":            {signed(200, link(api.MD5, 1)), sha, 0, []api.Link{link(api.SHA256, 2), link(api.SHA384, 50)}, api.OK},
		"from a day":         {signed(200, link(api.MD5, 1)), sha, 8, []api.Link{link(api.SHA256, 8), link(api.SHA384, 50)}, api.OK},
		"too late":           {signed(200, link(api.MD5, 1)), sha, 9, nil, api.ErrNoPlan},
		"one is enough":      {signed(99, link(api.MD5, 1)), sha, 0, []api.Link{link(api.SHA256, 2)}, api.OK},
		"what holds":         {signed(8, link(api.MD5, 1)), nil, 0, nil, api.OK},
		"no uses":            {signed(9, link(api.MD5, 1)), nil, 0, nil, api.ErrNoPlan},
		"no use that helps":  {signed(9, link(api.MD5, 1)), []api.Use{use(api.MD5)}, 0, nil, api.ErrNoPlan},
		"no second one":      {signed(200, link(api.MD5, 1)), []api.Use{use(api.SHA256)}, 0, nil, api.ErrNoPlan},
		"full":               {full, sha, 0, nil, api.ErrLimit},
		"full and no link":   {full, nil, 0, nil, api.ErrNoPlan},
		"a secret":           {secret, sha, 0, nil, api.ErrNoPlan},
		"a use":              {signed(200, link(api.MD5, 1)), []api.Use{{}}, -1, nil, api.ErrUse},
		"a day":              {signed(8, link(api.MD5, 1)), sha, -1, nil, api.ErrRange},
		"a day after all":    {signed(8, link(api.MD5, 1)), sha, api.MaxDay + 1, nil, api.ErrRange},
		"begun too late":     {signed(200, link(api.MD5, 20)), sha, 0, nil, api.ErrNoPlan},
		"renewed for a time": {signed(200, link(api.MD5, 1), link(api.SHA256, 7)), sha, 60, []api.Link{link(api.SHA384, 60)}, api.OK},
	} {
		l, e := renewal.Schedule(law(t), x.i, x.uses, x.from)
		if e != x.e || !slices.Equal(l, x.want) {
			t.Errorf("%s: %v, %v", name, l, e)
		}
	}
}

// fewest returns how many links from a day on make an item hold, found by trying; 9 if none do.
func fewest(p api.Policy, i api.Item, uses []api.Use, from, most int) int {
	if ok, _ := renewal.Holds(p, i); ok {
		return 0
	}
	best := 9
	for day := max(from, i.Links[len(i.Links)-1].Day+1); day < 25 && most > 0; day++ {
		for _, u := range uses {
			if ok, _, _ := verdict.Allowed(p, u, i.Purpose, day); !ok {
				continue
			}
			more := renewal.Apply(i, []api.Link{{Use: u, Day: day}})
			if n, _ := lifetime.Links(p, more); n == len(more.Links) {
				best = min(best, 1+fewest(p, more, uses, from, most-1))
			}
		}
	}
	return best
}

func TestFewest(t *testing.T) { // consequences: after Schedule the item holds, and no fewer links would do
	r := rand.New(rand.NewSource(2))
	made := 0
	for range 800 {
		var p api.Policy
		for alg := 1; alg <= 4; alg++ {
			from := r.Intn(8 * alg)
			p.Rules = append(p.Rules, api.Rule{Alg: alg, To: from + 1}, api.Rule{Alg: alg, From: from + 1 + r.Intn(12), To: api.MaxDay + 1})
		}
		p.Rules = append(p.Rules, api.Rule{Allow: true, Alg: 1, To: 6})
		i := signed(24, link(api.MD5, 1))
		uses := []api.Use{use(2), use(3), use(4)}
		l, e := renewal.Schedule(p, i, uses, 2)
		if e != api.OK {
			continue
		}
		holds, _ := renewal.Holds(p, renewal.Apply(i, l))
		if n := fewest(p, i, uses, 2, len(l)); !holds || n != len(l) {
			t.Fatalf("%v: %v, but %d would do", p, l, n)
		}
		if len(l) > 0 {
			made++
		}
	}
	if made < 10 {
		t.Error(made)
	}
}

func TestMemory(t *testing.T) { // R3
	i, uses, p := signed(200, link(api.MD5, 1)), []api.Use{use(api.SHA256), use(api.SHA384)}, law(t)
	i.Links = append(make([]api.Link, 0, 9), i.Links...)
	more := []api.Link{link(1, 1)}
	apart(t, "Schedule", func() []api.Link { l, _ := renewal.Schedule(p, i, uses, 0); return l }, p, i, uses)
	apart(t, "Apply", func() api.Item { return renewal.Apply(i, more) }, i, more)
	apart(t, "Apply of none", func() api.Item { return renewal.Apply(i, nil) }, i)
}
