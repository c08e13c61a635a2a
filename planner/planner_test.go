package planner_test

import (
	"cipherplan/api"
	"cipherplan/conversation"
	"cipherplan/estate"
	"cipherplan/need"
	"cipherplan/plan"
	"cipherplan/planner"
	"cipherplan/proof"
	"cipherplan/rule"
	"cipherplan/sample"
	"fmt"
	"math/rand"
	"reflect"
	"slices"
	"testing"
)

func set(endpoint, kind, number int) api.Change {
	return api.Change{Endpoint: endpoint, Kind: kind, Number: number}
}

func r(first, then int) api.Required { return api.Required{First: first, Then: then} }

func wrong() api.Estate {
	e := sample.Estate()
	e.Endpoints[0].Most = 9
	return e
}

// calendar returns a calendar of the sample estate, in which all teams work every day.
func calendar(room int) api.Calendar {
	c := api.Calendar{Team: []int{0, 1, 0}, Room: []int{room, room}}
	for i := range 20 {
		c.Windows = append(c.Windows, api.Window{Days: api.Span{From: 2 * i, To: 2*i + 2}, Teams: []int{0, 1}})
	}
	return c
}

// swap returns changes that lead db to an identity below a new anchor, app and web to this anchor.
func swap() []api.Change {
	return []api.Change{{Endpoint: 1, Kind: api.AddIdentity, At: 1, Identity: sample.Identity("db", sample.RSA(), 9, 7)}, set(1, api.DropIdentity, 2), set(0, api.AddAnchor, 7), set(2, api.AddAnchor, 7)}
}

func TestGood(t *testing.T) { // P33.1
	l := []api.Change{set(0, api.DropSuite, 10), set(0, api.DropSuite, 2), set(1, api.DropSuite, 8), set(1, api.DropSuite, 99), set(9, api.SetMost, 4)}
	for _, x := range []struct {
		s        api.Set
		from, to int
		want     bool
	}{
		{nil, 1, 9, true}, {api.Set{0}, 1, 9, true}, {api.Set{0, 1}, 1, 9, false}, {api.Set{1, 2}, 1, 9, true}, {api.Set{0, 2}, 1, 9, true},
		{api.Set{3}, 1, 9, false}, {api.Set{4}, 1, 9, false}, {nil, 9, 1, false}, {nil, 1, sample.Last, false}, {nil, 1, sample.Last - 1, true}, {nil, sample.Last, sample.Last, false}, {nil, 5, 5, true}, {nil, 0, 0, true}, {nil, api.MaxDay, api.MaxDay, false},
	} {
		if ok, e := planner.Good(sample.Estate(), l, x.s, x.from, x.to); ok != x.want || e != api.OK {
			t.Errorf("%v: %v, %v", x, ok, e)
		}
	}
	if ok, e := planner.Good(api.Estate{}, nil, nil, 9, 1); !ok || e != api.OK {
		t.Errorf("without edges: %v, %v", ok, e)
	}
	for _, x := range []struct {
		e        api.Estate
		l        []api.Change
		s        api.Set
		from, to int
		want     api.Errno
	}{{wrong(), slices.Repeat(l, 5), api.Set{-1}, -1, -1, api.ErrEstate}, {sample.Estate(), slices.Repeat(l, 5), api.Set{-1}, -1, -1, api.ErrLimit}, {sample.Estate(), l, api.Set{-1}, -1, -1, api.ErrSet}, {sample.Estate(), l, api.Set{5}, -1, -1, api.ErrSet}, {sample.Estate(), l, api.Set{1, 1}, -1, -1, api.ErrSet}, {sample.Estate(), l, nil, -1, 1, api.ErrRange}, {sample.Estate(), l, nil, 1, api.MaxDay + 1, api.ErrRange}} {
		if ok, e := planner.Good(x.e, x.l, x.s, x.from, x.to); ok || e != x.want {
			t.Errorf("%v: %v, %v", x.s, ok, e)
		}
	}
}

func TestSequence(t *testing.T) { // P33.2
	for name, x := range map[string]struct {
		l    []api.Change
		want []int
		e    api.Errno
	}{
		"none":      {nil, nil, api.OK},
		"swap":      {swap(), []int{0, 2, 3, 1}, api.OK},
		"any order": {[]api.Change{set(0, api.DropSuite, 10), set(1, api.DropSuite, 8), set(0, api.SetMost, 4)}, []int{0, 1, 2}, api.OK},
		"no way":    {[]api.Change{set(0, api.DropSuite, 10), set(0, api.DropSuite, 2)}, nil, api.ErrNoPlan},
		"by others": {[]api.Change{set(0, api.SetLeast, 4), set(0, api.SetMost, 4)}, nil, api.ErrNoPlan},
	} {
		if order, e := planner.Sequence(sample.Estate(), x.l, 1, 9); e != x.e || !slices.Equal(order, x.want) {
			t.Errorf("%s: %v, %v", name, order, e)
		}
	}
	if order, e := planner.Sequence(sample.Estate(), nil, 1, sample.Last); e != api.ErrNoPlan || len(order) > 0 {
		t.Errorf("%v, %v", order, e)
	}
	eleven := slices.Repeat([]api.Change{set(9, 0, 0)}, 11)
	for _, x := range []struct {
		e        api.Estate
		l        []api.Change
		from, to int
		want     api.Errno
	}{{wrong(), eleven, -1, 1, api.ErrEstate}, {sample.Estate(), eleven, -1, 1, api.ErrLimit}, {sample.Estate(), eleven[:10], -1, 1, api.ErrRange}, {sample.Estate(), eleven[:10], 1, api.MaxDay + 1, api.ErrRange}, {sample.Estate(), eleven[:10], 1, 9, api.ErrNoPlan}} {
		if order, e := planner.Sequence(x.e, x.l, x.from, x.to); e != x.want || len(order) > 0 {
			t.Errorf("%v, %v", order, e)
		}
	}
}

// random returns changes most of which are possible.
func random(x *rand.Rand, n int) []api.Change {
	var l []api.Change
	for range x.Intn(n) {
		l = append(l, set(x.Intn(3), []int{api.DropSuite, api.AddSuite, api.SetMost}[x.Intn(3)], []int{2, 8, 10}[x.Intn(3)]))
		if c := &l[len(l)-1]; c.Kind == api.SetMost {
			c.Number = 2 + x.Intn(3)
		}
	}
	return l
}

// permutations calls a function with all orders of some numbers, the least first, until it returns true.
func permutations(n int, before []int, f func([]int) bool) bool {
	if len(before) == n {
		return f(before)
	}
	for i := range n {
		if !slices.Contains(before, i) && permutations(n, append(slices.Clone(before), i), f) {
			return true
		}
	}
	return false
}

func TestSequenceAtRandom(t *testing.T) { // P33.2: the least order is found whenever there is one
	x := rand.New(rand.NewSource(1))
	found := 0
	for range 300 {
		l := random(x, 5)
		var want []int
		ok := permutations(len(l), nil, func(order []int) bool {
			for k := range len(order) + 1 {
				s := slices.Clone(order[:k])
				slices.Sort(s)
				if good, _ := planner.Good(sample.Estate(), l, s, 1, 9); !good {
					return false
				}
			}
			want = order
			return true
		})
		got, e := planner.Sequence(sample.Estate(), l, 1, 9)
		if (e == api.OK) != ok || !slices.Equal(got, want) {
			t.Fatalf("%v: %v, %v, not %v", l, got, e, want)
		}
		if ok && len(l) > 1 {
			found++
		}
	}
	if found < 10 {
		t.Error(found)
	}
}

func TestMake(t *testing.T) { // P33.3
	forbid, _, _ := rule.Parse("forbid chacha")
	later, _, _ := rule.Parse("forbid chacha from 2")
	add := func(endpoint int) api.Change { return api.Change{Endpoint: endpoint, Kind: api.AddSuite, Number: 12} }
	derived, _ := need.Derive(sample.Estate(), swap())
	for name, x := range map[string]struct {
		l        []api.Change
		c        api.Calendar
		p        api.Policy
		required []api.Required
		days     []int
		e        api.Errno
	}{
		"none":          {nil, calendar(1), forbid, nil, nil, api.OK},
		"derived":       {swap(), calendar(24), forbid, derived, []int{1, 2, 0, 0}, api.OK},
		"with room":     {swap(), calendar(1), forbid, derived, []int{3, 4, 0, 2}, api.OK},
		"by a sequence": {[]api.Change{set(0, api.DropSuite, 10), {Endpoint: 2, Kind: api.AddSuite, Number: 8}, set(0, api.DropSuite, 2)}, calendar(24), forbid, []api.Required{r(1, 0), r(1, 2)}, []int{1, 0, 1}, api.OK},
		"forbidden":     {[]api.Change{add(0), add(1)}, calendar(24), forbid, nil, nil, api.ErrNoPlan},
		"in time":       {[]api.Change{add(0), add(1)}, calendar(24), later, nil, []int{0, 0}, api.OK},
		"not in time":   {[]api.Change{set(0, api.AddAnchor, 7), add(0), {Endpoint: 1, Kind: api.AddIdentity, Identity: sample.Identity("db", sample.RSA(), 9, 7)}, add(1)}, calendar(24), later, nil, nil, api.ErrNoPlan},
		"no room":       {swap(), calendar(0), forbid, nil, nil, api.ErrNoPlan},
		"broken anyway": {[]api.Change{set(0, api.DropSuite, 10), set(0, api.DropSuite, 2)}, calendar(24), forbid, nil, nil, api.ErrNoPlan},
		"not possible":  {[]api.Change{set(0, api.DropSuite, 99)}, calendar(24), forbid, nil, nil, api.ErrNoPlan},
	} {
		p, f, e := planner.Make(sample.Estate(), x.c, x.l, x.p, nil, api.Owners{}, 0, 50)
		if e != x.e || !slices.Equal(p.Required, x.required) || !slices.Equal(p.Days, x.days) {
			t.Errorf("%s: %v, %v, %v", name, p.Required, p.Days, e)
		}
		if e != api.OK {
			if !reflect.DeepEqual(p, api.Plan{}) || !reflect.DeepEqual(f, api.Proof{}) {
				t.Errorf("%s: %v, %v", name, p, f)
			}
			continue
		}
		if plan.Check(sample.Estate(), x.c, p) != api.OK || proof.Check(sample.Estate(), p, 0, 50, f) != api.OK {
			t.Errorf("%s: %v, %v", name, p, f)
		}
	}
}

func TestOtherRequirements(t *testing.T) { // P33.3: where Derive does not do, the sequence, and then the order as given
	app := set(0, api.DropSuite, 10) // both drop what they have in common, one behind the other
	l := []api.Change{set(2, api.DropSuite, 10), app, {Endpoint: 2, Kind: api.AddSuite, Number: 8}, set(1, api.DropSuite, 10), set(0, api.DropSuite, 2)}
	p, _, e := planner.Make(sample.Estate(), calendar(24), l, api.Policy{}, nil, api.Owners{}, 0, 50)
	if e != api.OK || len(p.Required) == 0 {
		t.Errorf("%v, %v", p, e)
	}
	same := []api.Change{set(0, api.SetMost, 2), set(0, api.SetMost, 3)} // of one rank each, but only in this order
	p, _, e = planner.Make(sample.Estate(), calendar(24), same, api.Policy{}, nil, api.Owners{}, 0, 50)
	if e != api.OK || !slices.Equal(p.Required, []api.Required{r(0, 1)}) {
		t.Errorf("%v, %v", p.Required, e)
	}
	many := slices.Concat(same, slices.Repeat([]api.Change{set(2, api.AddAnchor, 5)}, 0))
	for i := range 9 {
		many = append(many, set(2, api.AddAnchor, 50+i))
	}
	if p, _, e := planner.Make(sample.Estate(), calendar(24), many, api.Policy{}, nil, api.Owners{}, 0, 50); e != api.ErrNoPlan || len(p.Days) > 0 {
		t.Errorf("more than MaxSmall: %v, %v", p, e)
	}
}

// TestAsGiven checks that the order as given is tried where no sequence is good from the beginning: the new identity is valid later.
func TestAsGiven(t *testing.T) { // P33.3
	id := sample.Identity("db", sample.RSA(), 9, sample.Anchor)
	id.Chain[0].From = 5
	id.Chain[0] = sample.Sealed(id.Chain[0], sample.Anchor)
	l := []api.Change{{Endpoint: 1, Kind: api.AddIdentity, Identity: id}, set(0, api.SetMost, 2), set(0, api.SetMost, 3)}
	for i := range 7 {
		l = append(l, set(2, api.AddAnchor, 50+i))
	}
	c := calendar(24)
	c.Windows = []api.Window{{Days: api.Span{From: 10, To: 50}, Teams: []int{0, 1}}}
	if _, e := planner.Sequence(sample.Estate(), l, 0, 60); e != api.ErrNoPlan {
		t.Error(e)
	}
	p, f, e := planner.Make(sample.Estate(), c, l, api.Policy{}, nil, api.Owners{}, 0, 60)
	if e != api.OK || len(p.Required) != 9 || !slices.Equal(p.Days, []int{10, 11, 12, 13, 14, 15, 16, 17, 18, 19}) || proof.Check(sample.Estate(), p, 0, 60, f) != api.OK {
		t.Errorf("%v, %v", p, e)
	}
	if _, _, e := planner.Make(sample.Estate(), c, append(l, set(2, api.AddAnchor, 99)), api.Policy{}, nil, api.Owners{}, 0, 60); e != api.ErrNoPlan {
		t.Errorf("eleven: %v", e)
	}
	c.Windows = []api.Window{{Days: api.Span{From: 0, To: 2}, Teams: []int{1}}, {Days: api.Span{From: 2, To: 4}, Teams: []int{0}}}
	p, _, e = planner.Make(sample.Estate(), c, []api.Change{set(1, api.DropSuite, 2), set(0, api.AddAnchor, 7)}, api.Policy{}, nil, api.Owners{}, 0, 60)
	if e != api.OK || !slices.Equal(p.Required, []api.Required{r(0, 1)}) || !slices.Equal(p.Days, []int{0, 2}) {
		t.Errorf("where what is derived finds no days: %v, %v", p, e)
	}
	many := []api.Change{set(1, api.DropSuite, 2)}
	for i := range 10 {
		many = append(many, set(0, api.AddAnchor, 50+i))
	}
	if p, _, e := planner.Make(sample.Estate(), c, many, api.Policy{}, nil, api.Owners{}, 0, 60); e != api.ErrNoPlan || len(p.Days) > 0 {
		t.Errorf("eleven, without days: %v, %v", p, e)
	}
}

// TestSequenceFirst checks that a sequence comes before the order as given: a suite goes before the identity that it would be served with comes, which is valid later.
func TestSequenceFirst(t *testing.T) { // P33.3
	e := sample.Estate()
	e.Endpoints[0].Suites, e.Endpoints[1].Suites = []int{9, 10, 2}, []int{9, 10, 2}
	id := sample.Identity("db", api.Use{Alg: api.ECDSA, Bits: 256}, 9, sample.Anchor)
	id.Chain[0].From = 5
	id.Chain[0] = sample.Sealed(id.Chain[0], sample.Anchor)
	l := []api.Change{{Endpoint: 1, Kind: api.AddIdentity, Identity: id}, set(1, api.DropSuite, 9), set(0, api.SetMost, 2), set(0, api.SetMost, 3)}
	c := calendar(24)
	c.Windows = []api.Window{{Days: api.Span{From: 10, To: 50}, Teams: []int{0, 1}}}
	if order, f := planner.Sequence(e, l, 0, 60); f != api.OK || !slices.Equal(order, []int{1, 0, 2, 3}) {
		t.Errorf("%v, %v", order, f)
	}
	p, _, f := planner.Make(e, c, l, api.Policy{}, nil, api.Owners{}, 0, 60)
	if f != api.OK || !slices.Equal(p.Required, []api.Required{r(0, 2), r(1, 0), r(2, 3)}) {
		t.Errorf("%v, %v", p.Required, f)
	}
}

func TestMakeErrors(t *testing.T) { // P33.3
	bad, none := api.Policy{Rules: []api.Rule{{}}}, make([]api.Exception, 1)
	elsewhere := slices.Repeat([]api.Change{set(9, 0, 0)}, 25)
	for i, x := range []struct {
		e        api.Estate
		c        api.Calendar
		l        []api.Change
		p        api.Policy
		x        []api.Exception
		from, to int
		want     api.Errno
	}{
		{wrong(), api.Calendar{}, elsewhere, bad, none, -1, -1, api.ErrEstate},
		{sample.Estate(), api.Calendar{}, elsewhere, bad, none, -1, -1, api.ErrForm},
		{sample.Estate(), calendar(25), elsewhere, bad, none, -1, -1, api.ErrRange},
		{sample.Estate(), calendar(1), elsewhere, bad, none, -1, -1, api.ErrLimit},
		{sample.Estate(), calendar(1), elsewhere[:1], bad, none, -1, -1, api.ErrChange},
		{sample.Estate(), calendar(1), nil, bad, none, -1, -1, api.ErrRule},
		{sample.Estate(), calendar(1), nil, api.Policy{}, none, -1, -1, api.ErrException},
		{sample.Estate(), calendar(1), nil, api.Policy{}, nil, -1, 1, api.ErrRange},
		{sample.Estate(), calendar(1), nil, api.Policy{}, nil, 1, api.MaxDay + 1, api.ErrRange},
	} {
		if p, f, e := planner.Make(x.e, x.c, x.l, x.p, x.x, api.Owners{}, x.from, x.to); e != x.want || !reflect.DeepEqual(p, api.Plan{}) || len(f.Cases) > 0 {
			t.Errorf("%d: %v", i, e)
		}
	}
}

func TestRelax(t *testing.T) { // P33.4
	p, _, _ := planner.Make(sample.Estate(), calendar(24), swap(), api.Policy{}, nil, api.Owners{}, 0, 50)
	less, e := planner.Relax(sample.Estate(), p, 0, 50)
	if e != api.OK || !slices.Equal(less.Days, p.Days) || len(less.Changes) != 4 || len(less.Required) >= len(p.Required) {
		t.Errorf("%v, %v", less, e)
	}
	if _, f := proof.Make(sample.Estate(), less, 0, 50); f != api.OK {
		t.Error(f)
	}
	for i := range less.Required { // no requirement can be left out alone
		q := less
		q.Required = slices.Delete(slices.Clone(less.Required), i, i+1)
		if _, f := proof.Make(sample.Estate(), q, 0, 50); f == api.OK {
			t.Errorf("%v can be left out", less.Required[i])
		}
	}
	again, e := planner.Relax(sample.Estate(), less, 0, 50)
	if e != api.OK || !plan.Same(less, again) {
		t.Errorf("%v, %v", again, e)
	}
	first := api.Plan{Changes: []api.Change{set(0, api.SetFallback, 1), set(1, api.SetFallback, 1), set(2, api.SetFallback, 1)}, Required: []api.Required{r(0, 1), r(0, 2), r(1, 2)}, Days: []int{1, 2, 3}}
	if q, e := planner.Relax(sample.Estate(), first, 0, 50); e != api.OK || len(q.Required) > 0 {
		t.Errorf("%v, %v", q, e)
	}
	broken := api.Plan{Changes: []api.Change{set(0, api.DropSuite, 10), set(0, api.DropSuite, 2)}, Days: []int{1, 1}}
	for _, x := range []struct {
		e    api.Estate
		p    api.Plan
		from int
		want api.Errno
	}{{wrong(), broken, -1, api.ErrEstate}, {sample.Estate(), api.Plan{Days: []int{1}}, -1, api.ErrPlan}, {sample.Estate(), broken, -1, api.ErrRange}, {sample.Estate(), broken, 1, api.ErrEdge}} {
		if q, e := planner.Relax(x.e, x.p, x.from, 50); e != x.want || !reflect.DeepEqual(q, api.Plan{}) {
			t.Errorf("%v, %v", q, e)
		}
	}
}

func TestReverse(t *testing.T) { // P33.4
	x := rand.New(rand.NewSource(3))
	e := sample.Estate()
	for range 300 {
		l := append(random(x, 6), swap()...)
		var all api.Set
		for i := range l {
			all = append(all, i)
		}
		state, f := estate.State(e, l, all)
		back, g := planner.Reverse(e, l)
		if f != g || f != api.OK && len(back) > 0 {
			t.Fatalf("%v: %v, %v", l, f, g)
		}
		if f != api.OK {
			continue
		}
		there, f := estate.State(state, back, all)
		if f != api.OK || !estate.Same(there, e) {
			t.Fatalf("%v: %v, %v", l, back, f)
		}
	}
	if back, f := planner.Reverse(wrong(), slices.Repeat(swap(), 7)); f != api.ErrEstate || len(back) > 0 {
		t.Error(f)
	}
	if back, f := planner.Reverse(e, slices.Repeat(swap(), 7)); f != api.ErrLimit || len(back) > 0 {
		t.Error(f)
	}
	if back, f := planner.Reverse(e, nil); f != api.OK || len(back) > 0 {
		t.Error(f)
	}
	if back, f := planner.Reverse(e, []api.Change{set(0, api.DropSuite, 8), set(0, api.SetMost, 4)}); f != api.OK || fmt.Sprint(back[0].Kind, back[0].Number, back[1].Kind, back[1].At) != fmt.Sprint(api.SetMost, 3, api.AddSuite, 1) {
		t.Errorf("%v, %v", back, f)
	}
}

func TestKeeps(t *testing.T) { // consequence: nobody is broken in any state that Good calls good
	x := rand.New(rand.NewSource(4))
	for range 200 {
		l := random(x, 4)
		var s api.Set
		for i := range l {
			s = append(s, i)
		}
		good, _ := planner.Good(sample.Estate(), l, s, 3, 9)
		state, f := estate.State(sample.Estate(), l, s)
		works := f == api.OK
		for edge := range sample.Estate().Edges {
			_, g := conversation.During(state, edge, 3, 9)
			works = works && g == api.OK
		}
		if good != works {
			t.Fatalf("%v: %v", l, good)
		}
	}
}

func TestMemory(t *testing.T) { // R3
	e, c, l := sample.Estate(), calendar(9), swap()
	p, _, _ := planner.Make(e, c, l, api.Policy{}, nil, api.Owners{}, 0, 50)
	apart(t, "Sequence", func() []int { s, _ := planner.Sequence(e, l, 1, 9); return s }, e, l)
	apart(t, "Make", func() api.Plan { p, _, _ := planner.Make(e, c, l, api.Policy{}, nil, api.Owners{}, 0, 50); return p }, e, c, l)
	apart(t, "Relax", func() api.Plan { q, _ := planner.Relax(e, p, 0, 50); return q }, e, p)
	apart(t, "Reverse", func() []api.Change { b, _ := planner.Reverse(e, l); return b }, e, l)
}
