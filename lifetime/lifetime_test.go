package lifetime_test

import (
	"cipherplan/api"
	"cipherplan/lifetime"
	"cipherplan/rule"
	"math/rand"
	"reflect"
	"strings"
	"testing"
)

// policy says that md5 falls on day 9, sha1 on day 50 and sha384 on day 0 of the purpose sign; it keeps what is signed for 100 days.
const policy = "forbid md5 from 9\nforbid sha1 for sign from 50\nforbid sha384\nkeep sign 100"

func parsed(t *testing.T) api.Policy {
	t.Helper()
	p, _, e := rule.Parse(policy)
	if e != api.OK {
		t.Fatal(e)
	}
	return p
}

// link returns a link.
func link(alg, day int) api.Link { return api.Link{Use: api.Use{Alg: alg}, Day: day} }

func item(kind int, links ...api.Link) api.Item {
	return api.Item{Name: "x", Kind: kind, Purpose: api.PurposeSign, Links: links, Until: 200}
}

func signed(links ...api.Link) api.Item { return item(api.ItemSigned, links...) }

func secret(links ...api.Link) api.Item { return item(api.ItemSecret, links...) }

func with(f func(*api.Item)) api.Item {
	i := signed(link(api.MD5, 1), link(api.SHA1, 5))
	f(&i)
	return i
}

func TestItems(t *testing.T) { // P22.1 to P22.3
	const none = -1
	for name, x := range map[string]struct {
		i                    api.Item
		links, fails, latest int
	}{
		"one":                      {signed(link(api.MD5, 1)), 1, 9, 8},
		"no fall":                  {signed(link(api.SHA256, 1)), 1, none, api.MaxDay},
		"in time":                  {signed(link(api.MD5, 1), link(api.SHA256, 8)), 2, none, api.MaxDay},
		"too late":                 {signed(link(api.MD5, 1), link(api.SHA256, 9)), 1, 9, none},
		"three":                    {signed(link(api.MD5, 1), link(api.SHA1, 8), link(api.SHA256, 49)), 3, none, api.MaxDay},
		"the third too late":       {signed(link(api.MD5, 1), link(api.SHA1, 8), link(api.SHA256, 50)), 2, 50, none},
		"after one too late":       {signed(link(api.MD5, 1), link(api.SHA1, 9), link(api.SHA256, 10)), 1, 9, none},
		"behind one without fall":  {signed(link(api.SHA256, 1), link(api.SHA1, 8), link(api.SHA256, 49)), 3, none, api.MaxDay},
		"down to a lesser one":     {signed(link(api.SHA256, 1), link(api.MD5, 2)), 2, 9, 8},
		"begun behind the fall":    {signed(link(api.MD5, 20)), 1, 20, none},
		"begun on the fall":        {signed(link(api.MD5, 9)), 1, 9, none},
		"begun just before":        {signed(link(api.MD5, 8)), 1, 9, none},
		"begun earlier":            {signed(link(api.MD5, 7)), 1, 9, 8},
		"always forbidden":         {signed(link(api.SHA384, 5)), 1, 5, none},
		"in time, forbidden":       {signed(link(api.MD5, 1), link(api.SHA384, 5)), 2, 5, none},
		"at the end":               {func() api.Item { i := signed(link(api.SHA256, api.MaxDay)); i.Until = api.MaxDay; return i }(), 1, none, none},
		"a secret":                 {secret(link(api.MD5, 1)), 1, 9, none},
		"a secret without fall":    {secret(link(api.SHA256, 1)), 1, none, none},
		"a secret's least":         {secret(link(api.SHA1, 1), link(api.MD5, 5), link(api.SHA256, 6)), 3, 9, none},
		"a secret behind the fall": {secret(link(api.SHA1, 1), link(api.MD5, 30)), 2, 30, none},
		"a secret, too late":       {secret(link(api.MD5, 1), link(api.SHA256, 9)), 2, 9, none},
	} {
		p := parsed(t)
		n, e := lifetime.Links(p, x.i)
		day, ok, f := lifetime.Fails(p, x.i)
		if day == 0 {
			day = none
		}
		latest, ok2, g := lifetime.Latest(p, x.i)
		if latest == 0 {
			latest = none
		}
		if n != x.links || day != x.fails || ok != (day != none) || latest != x.latest || ok2 != (latest != none) || e != api.OK || f != api.OK || g != api.OK {
			t.Errorf("%s: %d, %v; %d, %v, %v; %d, %v, %v", name, n, e, day, ok, f, latest, ok2, g)
		}
	}
}

// wrong returns items that are not valid.
func wrong() map[string]api.Item {
	var nine []api.Link
	for i := range 9 {
		nine = append(nine, link(api.MD5, i))
	}
	return map[string]api.Item{
		"zero":        {},
		"no name":     with(func(i *api.Item) { i.Name = "" }),
		"a blank":     with(func(i *api.Item) { i.Name = "a b" }),
		"long":        with(func(i *api.Item) { i.Name = strings.Repeat("x", 33) }),
		"kind 0":      with(func(i *api.Item) { i.Kind = 0 }),
		"kind 3":      with(func(i *api.Item) { i.Kind = 3 }),
		"purpose 0":   with(func(i *api.Item) { i.Purpose = 0 }),
		"purpose 5":   with(func(i *api.Item) { i.Purpose = 5 }),
		"no link":     with(func(i *api.Item) { i.Links = nil }),
		"nine":        with(func(i *api.Item) { i.Links = nine }),
		"a use":       with(func(i *api.Item) { i.Links[1].Use.Bits = 7 }),
		"day -1":      with(func(i *api.Item) { i.Links[0].Day = -1 }),
		"a great day": with(func(i *api.Item) { i.Links[1].Day = api.MaxDay + 1 }),
		"one day":     with(func(i *api.Item) { i.Links[1].Day = 1 }),
		"descending":  with(func(i *api.Item) { i.Links[1].Day = 0 }),
		"until":       with(func(i *api.Item) { i.Until = 0 }),
		"great until": with(func(i *api.Item) { i.Until = api.MaxDay + 1 }),
	}
}

func TestErrors(t *testing.T) { // P22.1 to P22.4
	bad := api.Policy{Rules: []api.Rule{{}}}
	all := func(p api.Policy, i api.Item) []api.Errno {
		n, e1 := lifetime.Links(p, i)
		day, ok1, e2 := lifetime.Fails(p, i)
		latest, ok2, e3 := lifetime.Latest(p, i)
		r, e4 := lifetime.Renew(p, i, api.Use{}, -1)
		wanted, ok3, e5 := lifetime.Wanted(p, i)
		if n+day+latest+wanted != 0 || ok1 || ok2 || ok3 || !reflect.DeepEqual(r, api.Item{}) {
			t.Errorf("%v: results with an error", i)
		}
		return []api.Errno{e1, e2, e3, e4, e5}
	}
	for name, i := range wrong() {
		if e := lifetime.Check(i); e != api.ErrItem {
			t.Errorf("%s: %v", name, e)
		}
		for _, e := range all(parsed(t), i) {
			if e != api.ErrItem {
				t.Errorf("%s: %v", name, e)
			}
		}
		for _, e := range all(bad, i) {
			if e != api.ErrRule {
				t.Errorf("%s: %v", name, e)
			}
		}
	}
	for _, i := range []api.Item{with(func(*api.Item) {}), with(func(i *api.Item) { i.Purpose = 1 }), with(func(i *api.Item) { i.Purpose = 4 }), with(func(i *api.Item) { i.Until = 1 }), with(func(i *api.Item) { i.Until = api.MaxDay; i.Links[0].Day = 0; i.Links[1].Day = api.MaxDay })} {
		if e := lifetime.Check(i); e != api.OK {
			t.Errorf("%v: %v", i, e)
		}
	}
}

func TestRenew(t *testing.T) { // P22.3
	p, i := parsed(t), with(func(*api.Item) {})
	sha256 := api.Use{Alg: api.SHA256}
	r, e := lifetime.Renew(p, i, sha256, 6)
	if want := signed(link(api.MD5, 1), link(api.SHA1, 5), link(api.SHA256, 6)); e != api.OK || !reflect.DeepEqual(r, want) {
		t.Errorf("%v, %v", r, e)
	}
	if r, e := lifetime.Renew(p, i, sha256, api.MaxDay); e != api.OK || len(r.Links) != 3 {
		t.Errorf("%v, %v", r, e)
	}
	full := i
	for k := 6; k < 12; k++ {
		full.Links = append(full.Links[:k-4:k-4], link(api.SHA1, k))
	}
	for name, x := range map[string]struct {
		i    api.Item
		u    api.Use
		day  int
		want api.Errno
	}{"use": {full, api.Use{Alg: 99}, 0, api.ErrUse}, "same day": {i, sha256, 5, api.ErrDays}, "negative": {i, sha256, -5, api.ErrDays}, "after all": {i, sha256, api.MaxDay + 1, api.ErrDays}, "days first": {full, sha256, 1, api.ErrDays}, "full": {full, sha256, 100, api.ErrLimit}} {
		if r, e := lifetime.Renew(p, x.i, x.u, x.day); e != x.want || !reflect.DeepEqual(r, api.Item{}) {
			t.Errorf("%s: %v, %v", name, r, e)
		}
	}
}

func TestWanted(t *testing.T) { // P22.4
	for _, x := range []struct {
		f    func(*api.Item)
		want int
		ok   bool
	}{
		{func(*api.Item) {}, 101, true},
		{func(i *api.Item) { i.Until = 101 }, 101, true},
		{func(i *api.Item) { i.Until = 100 }, 101, false},
		{func(i *api.Item) { i.Purpose = api.PurposeCode }, 1, true},
		{func(i *api.Item) { i.Links = []api.Link{link(api.MD5, api.MaxDay-5)}; i.Until = api.MaxDay }, api.MaxDay, true},
		{func(i *api.Item) { i.Links = []api.Link{link(api.MD5, api.MaxDay-5)}; i.Until = api.MaxDay - 1 }, api.MaxDay, false},
	} {
		if n, ok, e := lifetime.Wanted(parsed(t), with(x.f)); n != x.want || ok != x.ok || e != api.OK {
			t.Errorf("%d, %v, %v", n, ok, e)
		}
	}
}

func TestConsequences(t *testing.T) { // a secret fails no later by more links; renewed in time without a fall a signature never fails; too late changes nothing
	r := rand.New(rand.NewSource(1))
	p := parsed(t)
	for range 2000 {
		day, i := 0, signed()
		for range 1 + r.Intn(4) {
			day += 1 + r.Intn(15)
			i.Links = append(i.Links, link([]int{api.MD5, api.SHA1, api.SHA256}[r.Intn(3)], day))
		}
		latest, ok, _ := lifetime.Latest(p, i)
		fails, failing, _ := lifetime.Fails(p, i)
		late, e := lifetime.Renew(p, i, api.Use{Alg: api.SHA256}, day+1+r.Intn(60))
		if e != api.OK {
			t.Fatal(e)
		}
		after, still, _ := lifetime.Fails(p, late)
		inTime := ok && late.Links[len(late.Links)-1].Day <= latest
		if inTime && still || !inTime && (after != fails || still != failing) {
			t.Fatalf("%v: %d, %v, then %d, %v", late, fails, failing, after, still)
		}
		i.Kind, late.Kind = api.ItemSecret, api.ItemSecret
		late.Links[len(late.Links)-1].Use.Alg = api.SHA1
		fails, failing, _ = lifetime.Fails(p, i)
		after, still, _ = lifetime.Fails(p, late)
		if failing && (!still || after > fails) {
			t.Fatalf("%v: %d, then %d, %v", late, fails, after, still)
		}
	}
}

func TestMemory(t *testing.T) { // R3
	p, i := parsed(t), with(func(*api.Item) {})
	i.Links = append(make([]api.Link, 0, 20), i.Links...)
	apart(t, "Renew", func() api.Item { r, _ := lifetime.Renew(p, i, api.Use{Alg: api.MD5}, 90); return r }, p, i)
}
