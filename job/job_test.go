package job_test

import (
	"cipherplan/api"
	"cipherplan/estate"
	"cipherplan/job"
	"cipherplan/lifetime"
	"cipherplan/rule"
	"cipherplan/sample"
	"math/rand"
	"reflect"
	"slices"
	"testing"
)

// law says that md5 falls on day 9, sha1 on day 50 for signatures; sha384 is allowed from day 20 on.
func law(t *testing.T) api.Policy {
	t.Helper()
	p, _, e := rule.Parse("forbid md5 from 9\nforbid sha1 for sign from 50\nforbid sha384 until 20")
	if e != api.OK {
		t.Fatal(e)
	}
	return p
}

// item returns an item until day 200.
func item(kind int, links ...api.Link) api.Item {
	return api.Item{Name: "x", Kind: kind, Purpose: api.PurposeSign, Links: links, Until: 200}
}

func link(alg, day int) api.Link { return api.Link{Use: api.Use{Alg: alg}, Day: day} }

// with returns the sample estate with other items.
func with(l ...api.Item) api.Estate {
	e := sample.Estate()
	e.Items = l
	return e
}

func do(item, alg, day int) api.Job { return api.Job{Item: item, Link: link(alg, day)} }

func wrong() api.Estate {
	e := sample.Estate()
	e.Endpoints[0].Most = 9
	return e
}

func TestApply(t *testing.T) { // P34.1
	full := item(api.ItemSigned)
	for i := range 8 {
		full.Links = append(full.Links, link(api.MD5, i))
	}
	e := with(item(api.ItemSigned, link(api.MD5, 1)), item(api.ItemSecret, link(api.SHA1, 2)), full)
	bad := api.Policy{Rules: []api.Rule{{}}}
	for name, x := range map[string]struct {
		e    api.Estate
		p    api.Policy
		j    api.Job
		want api.Errno
	}{
		"signed":          {e, law(t), do(0, api.SHA256, 5), api.OK},
		"too late":        {e, law(t), do(0, api.SHA256, 100), api.OK},
		"a secret":        {e, law(t), do(1, api.SHA1, 49), api.OK},
		"forbidden":       {e, law(t), do(0, api.SHA1, 50), api.ErrForbid},
		"forbidden yet":   {e, law(t), do(0, api.SHA384, 19), api.ErrForbid},
		"allowed then":    {e, law(t), do(0, api.SHA384, 20), api.OK},
		"estate":          {wrong(), bad, do(9, 99, 0), api.ErrEstate},
		"policy":          {e, bad, do(9, 99, 0), api.ErrRule},
		"no item":         {e, law(t), do(3, 99, 0), api.ErrJob},
		"item -1":         {e, law(t), do(-1, 99, 0), api.ErrJob},
		"no use":          {e, law(t), do(0, 99, 0), api.ErrUse},
		"not later":       {e, law(t), do(0, api.MD5, 1), api.ErrDays},
		"after all":       {e, law(t), do(0, api.MD5, api.MaxDay+1), api.ErrDays},
		"full":            {e, law(t), do(2, api.MD5, 100), api.ErrLimit},
		"days come first": {e, law(t), do(2, api.MD5, 7), api.ErrDays},
	} {
		got, f := job.Apply(x.e, x.p, x.j)
		if f != x.want || job.Check(x.e, x.p, x.j) != x.want {
			t.Errorf("%s: %v", name, f)
		}
		if f != api.OK {
			if !reflect.DeepEqual(got, api.Estate{}) {
				t.Errorf("%s: %v", name, got)
			}
			continue
		}
		want := with(slices.Clone(x.e.Items)...)
		want.Items[x.j.Item], _ = lifetime.Renew(x.p, x.e.Items[x.j.Item], x.j.Link.Use, x.j.Link.Day)
		if !estate.Same(got, want) {
			t.Errorf("%s: %v", name, got.Items)
		}
	}
}

func TestAll(t *testing.T) { // P34.1
	e := with(item(api.ItemSigned, link(api.MD5, 1)), item(api.ItemSecret, link(api.SHA1, 2)))
	jobs := []api.Job{do(0, api.SHA1, 5), do(1, api.SHA256, 3), do(0, api.SHA256, 40)}
	want := with(item(api.ItemSigned, link(api.MD5, 1), link(api.SHA1, 5), link(api.SHA256, 40)), item(api.ItemSecret, link(api.SHA1, 2), link(api.SHA256, 3)))
	if got, n, f := job.All(e, law(t), jobs); f != api.OK || n != 3 || !estate.Same(got, want) {
		t.Errorf("%v, %d, %v", got.Items, n, f)
	}
	want.Items[0].Links = want.Items[0].Links[:2]
	stopped := append(slices.Clone(jobs[:2]), do(0, api.SHA256, 5), jobs[2])
	if got, n, f := job.All(e, law(t), stopped); f != api.ErrDays || n != 2 || !estate.Same(got, want) {
		t.Errorf("%v, %d, %v", got.Items, n, f)
	}
	many := slices.Repeat([]api.Job{do(9, 0, 0)}, 61)
	if got, n, f := job.All(e, law(t), many); f != api.ErrLimit || n != 0 || !estate.Same(got, e) {
		t.Errorf("%d, %v", n, f)
	}
	if got, n, f := job.All(wrong(), law(t), many); f != api.ErrLimit || n != 0 || !estate.Same(got, wrong()) {
		t.Errorf("%d, %v", n, f)
	}
	if got, n, f := job.All(e, law(t), many[:60]); f != api.ErrJob || n != 0 || !estate.Same(got, e) {
		t.Errorf("%d, %v", n, f)
	}
	if got, n, f := job.All(wrong(), law(t), jobs); f != api.ErrEstate || n != 0 || !estate.Same(got, wrong()) {
		t.Errorf("%d, %v", n, f)
	}
	if got, n, f := job.All(e, law(t), nil); f != api.OK || n != 0 || !estate.Same(got, e) {
		t.Errorf("%d, %v", n, f)
	}
	var sixty []api.Job
	lots := with(slices.Repeat([]api.Item{item(api.ItemSigned, link(api.MD5, 1))}, 30)...)
	for i := range 60 {
		sixty = append(sixty, do(i%30, api.SHA256, 2+i))
	}
	if _, n, f := job.All(lots, law(t), sixty); f != api.OK || n != 60 {
		t.Errorf("%d, %v", n, f)
	}
}

func TestDue(t *testing.T) { // P34.2
	short := item(api.ItemSigned, link(api.MD5, 1))
	short.Until = 8
	just := short
	just.Until = 9
	e := with(
		item(api.ItemSigned, link(api.MD5, 1)),    // due until day 8
		item(api.ItemSecret, link(api.MD5, 1)),    // lost
		item(api.ItemSigned, link(api.SHA256, 1)), // holds
		short, // holds long enough
		just,  // due
		item(api.ItemSigned, link(api.MD5, 1), link(api.SHA256, 9)), // lost: too late
		item(api.ItemSigned, link(api.MD5, 20)),                     // lost
		item(api.ItemSigned, link(api.MD5, 1), link(api.SHA1, 8)),   // due until day 49
		item(api.ItemSecret, link(api.SHA256, 1)),                   // holds
	)
	if l, f := job.Due(e, law(t)); f != api.OK || !slices.Equal(l, []int{0, 4, 7}) {
		t.Errorf("%v, %v", l, f)
	}
	if l, f := job.Lost(e, law(t)); f != api.OK || !slices.Equal(l, []int{1, 5, 6}) {
		t.Errorf("%v, %v", l, f)
	}
	for i, want := range []int{8, 0, 0, 0, 8, 0, 0, 49, 0} {
		if day, ok, f := job.Deadline(e, law(t), i); day != want || ok != (want > 0) || f != api.OK {
			t.Errorf("%d: %d, %v, %v", i, day, ok, f)
		}
	}
	bad := api.Policy{Rules: []api.Rule{{}}}
	for _, x := range []struct {
		e    api.Estate
		p    api.Policy
		want api.Errno
	}{{wrong(), bad, api.ErrEstate}, {e, bad, api.ErrRule}} {
		a, f1 := job.Due(x.e, x.p)
		b, f2 := job.Lost(x.e, x.p)
		day, ok, f3 := job.Deadline(x.e, x.p, -1)
		if f1 != x.want || f2 != x.want || f3 != x.want || len(a)+len(b)+day != 0 || ok {
			t.Errorf("%v, %v, %v", f1, f2, f3)
		}
	}
	for _, i := range []int{-1, 9} {
		if day, ok, f := job.Deadline(e, law(t), i); f != api.ErrJob || day != 0 || ok {
			t.Errorf("%d: %v", i, f)
		}
	}
}

func TestConsequences(t *testing.T) { // no item is both; the others hold; a job in time makes a due one hold, and no job a lost one
	r := rand.New(rand.NewSource(1))
	for range 500 {
		day, x := 0, item(1+r.Intn(2))
		for range 1 + r.Intn(3) {
			day += 1 + r.Intn(20)
			x.Links = append(x.Links, link([]int{api.MD5, api.SHA1, api.SHA256}[r.Intn(3)], day))
		}
		e := with(x)
		due, _ := job.Due(e, law(t))
		lost, _ := job.Lost(e, law(t))
		fails, ok, _ := lifetime.Fails(law(t), x)
		if len(due)+len(lost) > 1 || (len(due)+len(lost) == 1) != (ok && fails <= 200) {
			t.Fatalf("%v: %v, %v", x, due, lost)
		}
		at := day + 1 + r.Intn(30)
		if len(due) > 0 {
			at, _, _ = job.Deadline(e, law(t), 0)
		}
		after, f := job.Apply(e, law(t), do(0, api.SHA256, at))
		if f != api.OK {
			t.Fatal(f)
		}
		due, _ = job.Due(after, law(t))
		still, _ := job.Lost(after, law(t))
		if len(due) > 0 || len(lost) != len(still) {
			t.Fatalf("%v: %v, %v", after.Items, due, still)
		}
	}
}

func TestMemory(t *testing.T) { // R3
	e, jobs := with(item(api.ItemSigned, link(api.MD5, 1))), []api.Job{do(0, api.SHA256, 5)}
	p := law(t)
	apart(t, "Apply", func() api.Estate { x, _ := job.Apply(e, p, jobs[0]); return x }, e, p)
	apart(t, "All", func() api.Estate { x, _, _ := job.All(e, p, jobs); return x }, e, p, jobs)
	apart(t, "All of none", func() api.Estate { x, _, _ := job.All(e, p, nil); return x }, e, p)
	many := slices.Repeat(jobs, 61)
	apart(t, "All of too many", func() api.Estate { x, _, _ := job.All(e, p, many); return x }, e, p, many)
	apart(t, "Due", func() []int { x, _ := job.Due(e, p); return x }, e, p)
}
