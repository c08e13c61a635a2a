package plan_test

import (
	"cipherplan/api"
	"cipherplan/order"
	"cipherplan/plan"
	"cipherplan/sample"
	"cipherplan/window"
	"math"
	"math/rand"
	"reflect"
	"slices"
	"testing"
)

func set(endpoint, kind, number int) api.Change {
	return api.Change{Endpoint: endpoint, Kind: kind, Number: number}
}

func r(first, then int) api.Required { return api.Required{First: first, Then: then} }

// calendar returns a calendar of the sample estate: app and web belong to team 0, db to team 1.
func calendar(f func(*api.Calendar)) api.Calendar {
	win := func(from, to int, teams ...int) api.Window {
		return api.Window{Days: api.Span{From: from, To: to}, Teams: teams}
	}
	c := api.Calendar{Windows: []api.Window{win(0, 5, 0, 1), win(7, 9, 0), win(10, 20, 0, 1)}, Team: []int{0, 1, 0}, Room: []int{2, 1}}
	f(&c)
	return c
}

func nothing(*api.Calendar) {}

// changes returns changes of app, db, web and app.
func changes() []api.Change {
	return []api.Change{set(0, api.DropSuite, 2), set(1, api.DropSuite, 2), set(2, api.DropSuite, 2), set(0, api.SetMost, 4)}
}

// valid returns a valid plan, with something changed.
func valid(f func(*api.Plan)) api.Plan {
	p := api.Plan{Changes: changes(), Required: []api.Required{r(0, 1), r(2, 3)}, Days: []int{3, 10, 4, 7}}
	f(&p)
	return p
}

func wrong() api.Estate {
	e := sample.Estate()
	e.Endpoints[0].Most = 9
	return e
}

func TestTeams(t *testing.T) { // P31.1
	if l, e := plan.Teams(calendar(nothing), changes()); e != api.OK || !slices.Equal(l, []int{0, 1, 0, 0}) {
		t.Errorf("%v, %v", l, e)
	}
	if l, e := plan.Teams(calendar(nothing), slices.Repeat(changes(), 6)); e != api.OK || len(l) != 24 {
		t.Errorf("%v, %v", l, e)
	}
	bad := calendar(func(c *api.Calendar) { c.Room[0] = -1 })
	none := []api.Change{set(3, 1, 1)}
	for _, x := range []struct {
		c    api.Calendar
		l    []api.Change
		want api.Errno
	}{{bad, slices.Repeat(none, 25), api.ErrRange}, {calendar(nothing), slices.Repeat(none, 25), api.ErrLimit}, {calendar(nothing), none, api.ErrChange}, {calendar(nothing), []api.Change{set(-1, 1, 1)}, api.ErrChange}} {
		if l, e := plan.Teams(x.c, x.l); e != x.want || len(l) > 0 {
			t.Errorf("%v, %v", l, e)
		}
	}
}

func TestCheck(t *testing.T) { // P31.1
	for name, x := range map[string]struct {
		e    api.Estate
		c    func(*api.Calendar)
		f    func(*api.Plan)
		want api.Errno
	}{
		"valid":         {sample.Estate(), nothing, func(*api.Plan) {}, api.OK},
		"empty":         {sample.Estate(), nothing, func(p *api.Plan) { *p = api.Plan{} }, api.OK},
		"estate":        {wrong(), func(c *api.Calendar) { c.Team = nil }, func(*api.Plan) {}, api.ErrEstate},
		"calendar":      {sample.Estate(), func(c *api.Calendar) { c.Team = c.Team[:2] }, func(p *api.Plan) { p.Days = nil }, api.ErrForm},
		"room":          {sample.Estate(), func(c *api.Calendar) { c.Room[0] = 25 }, func(p *api.Plan) { p.Days = nil }, api.ErrRange},
		"changes":       {sample.Estate(), nothing, func(p *api.Plan) { p.Changes = slices.Repeat(p.Changes, 7) }, api.ErrLimit},
		"no endpoint":   {sample.Estate(), nothing, func(p *api.Plan) { p.Changes[0].Endpoint = 3; p.Days = nil }, api.ErrChange},
		"days":          {sample.Estate(), nothing, func(p *api.Plan) { p.Days = p.Days[:3]; p.Required[0].First = 9 }, api.ErrPlan},
		"more days":     {sample.Estate(), nothing, func(p *api.Plan) { p.Days = append(p.Days, 1) }, api.ErrPlan},
		"need":          {sample.Estate(), nothing, func(p *api.Plan) { p.Required[0].First = 9 }, api.ErrNeed},
		"order":         {sample.Estate(), nothing, func(p *api.Plan) { slices.Reverse(p.Required); p.Days[1] = 0 }, api.ErrOrder},
		"loop":          {sample.Estate(), nothing, func(p *api.Plan) { p.Required[1] = r(1, 0) }, api.ErrLoop},
		"same day":      {sample.Estate(), nothing, func(p *api.Plan) { p.Days[1] = 3 }, api.ErrNeed},
		"earlier":       {sample.Estate(), nothing, func(p *api.Plan) { p.Days[1] = 2; p.Days[0] = 9 }, api.ErrNeed},
		"no window":     {sample.Estate(), nothing, func(p *api.Plan) { p.Days[1] = 7 }, api.ErrWindow},
		"no day":        {sample.Estate(), nothing, func(p *api.Plan) { p.Days[0] = -1 }, api.ErrWindow},
		"full":          {sample.Estate(), func(c *api.Calendar) { c.Room[0] = 1 }, func(*api.Plan) {}, api.ErrFull},
		"not fitting":   {sample.Estate(), nothing, func(p *api.Plan) { p.Changes[0].Kind = 77 }, api.OK},
		"three in five": {sample.Estate(), nothing, func(p *api.Plan) { p.Days = []int{0, 1, 2, 4}; p.Required = nil }, api.ErrFull},
	} {
		if e := plan.Check(x.e, calendar(x.c), valid(x.f)); e != x.want {
			t.Errorf("%s: %v", name, e)
		}
	}
}

func TestOrder(t *testing.T) { // P31.2
	p := valid(func(p *api.Plan) { p.Days = []int{5, 3, 5, 0} })
	if l := plan.Order(p); !slices.Equal(l, []int{3, 1, 0, 2}) {
		t.Error(l)
	}
	if n := plan.Last(p); n != 5 {
		t.Error(n)
	}
	if len(plan.Order(api.Plan{})) > 0 || plan.Last(api.Plan{}) != -1 {
		t.Error("none")
	}
	plan.Order(api.Plan{Changes: changes(), Days: []int{math.MinInt}})
	plan.Order(api.Plan{Days: []int{1, 2}})
}

func TestDue(t *testing.T) { // P31.2
	p := valid(func(*api.Plan) {})
	for _, x := range []struct {
		done api.Set
		day  int
		want api.Set
	}{{nil, 2, nil}, {nil, 3, api.Set{0}}, {nil, 99, api.Set{0, 2}}, {api.Set{0}, 10, api.Set{1, 2}}, {api.Set{0}, 9, api.Set{2}}, {api.Set{0, 2}, 7, api.Set{3}}, {api.Set{0, 1, 2, 3}, 99, nil}, {nil, math.MinInt, nil}} {
		if s, e := plan.Due(p, x.done, x.day); e != api.OK || !slices.Equal(s, x.want) {
			t.Errorf("%v: %v, %v", x, s, e)
		}
	}
	for _, done := range []api.Set{{1}, {4}, {-1}, {0, 0}, {1, 0}} {
		if s, e := plan.Due(p, done, 99); e != api.ErrSet || len(s) > 0 {
			t.Errorf("%v: %v, %v", done, s, e)
		}
	}
	plan.Due(api.Plan{Changes: changes()}, nil, 5)
	plan.Due(api.Plan{Changes: slices.Repeat(changes(), 9)}, nil, 5)
}

func TestSchedule(t *testing.T) { // P31.3
	one := func(c *api.Calendar) { c.Room = []int{1, 1} }
	for name, x := range map[string]struct {
		c    func(*api.Calendar)
		l    []api.Change
		r    []api.Required
		from int
		want []int
		e    api.Errno
	}{
		"example":         {one, []api.Change{set(0, 1, 1), set(2, 1, 1)}, nil, 0, []int{0, 7}, api.OK},
		"a requirement":   {nothing, changes(), []api.Required{r(0, 1), r(2, 3)}, 0, []int{0, 1, 0, 7}, api.OK},
		"from a day":      {nothing, changes()[:2], nil, 4, []int{4, 4}, api.OK},
		"from a negative": {nothing, changes()[:2], nil, math.MinInt, []int{0, 0}, api.OK},
		"the other way":   {nothing, changes()[:2], []api.Required{r(1, 0)}, 3, []int{4, 3}, api.OK},
		"over a gap":      {nothing, changes()[:2], []api.Required{r(0, 1)}, 4, []int{4, 10}, api.OK},
		"by order.First":  {one, changes(), []api.Required{r(3, 0)}, 0, []int{10, 0, 0, 7}, api.OK},
		"two firsts":      {nothing, changes(), []api.Required{r(0, 2), r(1, 2)}, 0, []int{0, 0, 1, 7}, api.OK},
		"none":            {nothing, nil, nil, 0, nil, api.OK},
		"no room":         {one, slices.Repeat(changes()[:1], 4), nil, 0, nil, api.ErrNoPlan},
		"too late":        {nothing, changes()[:1], nil, 20, nil, api.ErrNoPlan},
		"far too late":    {nothing, changes()[:1], nil, math.MaxInt, nil, api.ErrNoPlan},
		"no room for one": {func(c *api.Calendar) { c.Room[1] = 0 }, changes(), nil, 0, nil, api.ErrNoPlan},
		"calendar":        {func(c *api.Calendar) { c.Team = nil }, slices.Repeat(changes(), 7), nil, 0, nil, api.ErrForm},
		"25":              {nothing, slices.Repeat(changes(), 7), []api.Required{r(0, 0)}, 0, nil, api.ErrLimit},
		"no endpoint":     {nothing, []api.Change{set(3, 1, 1)}, []api.Required{r(0, 0)}, 0, nil, api.ErrChange},
		"need":            {nothing, changes(), []api.Required{r(0, 4)}, 99, nil, api.ErrNeed},
		"order":           {nothing, changes(), []api.Required{r(1, 0), r(0, 1)}, 99, nil, api.ErrOrder},
		"loop":            {nothing, changes(), []api.Required{r(0, 1), r(1, 0)}, 99, nil, api.ErrLoop},
	} {
		p, e := plan.Schedule(sample.Estate(), calendar(x.c), x.l, x.r, x.from)
		if e != x.e || !slices.Equal(p.Days, x.want) {
			t.Errorf("%s: %v, %v", name, p.Days, e)
		}
		if e != api.OK && !reflect.DeepEqual(p, api.Plan{}) {
			t.Errorf("%s: %v", name, p)
		}
		if want := (api.Plan{Changes: x.l, Required: x.r, Days: x.want}); e == api.OK && (!plan.Same(p, want) || plan.Check(sample.Estate(), calendar(x.c), p) != api.OK) {
			t.Errorf("%s: %v", name, p)
		}
	}
	if _, e := plan.Schedule(wrong(), calendar(func(c *api.Calendar) { c.Team = nil }), nil, nil, 0); e != api.ErrEstate {
		t.Error(e)
	}
}

func TestSame(t *testing.T) { // P31.2
	for name, f := range map[string]func(*api.Plan){
		"change":   func(p *api.Plan) { p.Changes[1].Number++ },
		"changes":  func(p *api.Plan) { p.Changes = p.Changes[:3] },
		"required": func(p *api.Plan) { p.Required[0].Then++ },
		"needs":    func(p *api.Plan) { p.Required = nil },
		"day":      func(p *api.Plan) { p.Days[0]++ },
		"days":     func(p *api.Plan) { p.Days = nil },
	} {
		if p := valid(f); plan.Same(p, valid(func(*api.Plan) {})) || !plan.Same(p, p) {
			t.Error(name)
		}
	}
	if !plan.Same(api.Plan{}, api.Plan{Days: []int{}}) {
		t.Error("empty")
	}
}

func TestConsequences(t *testing.T) { // what Schedule returns is valid and takes the earliest days; what is Due keeps the set closed
	x := rand.New(rand.NewSource(1))
	made := 0
	for range 300 {
		n := x.Intn(6)
		var l []api.Change
		var needs []api.Required
		for i := range n {
			l = append(l, set(x.Intn(3), 1, 1))
			for k := i + 1; k < n; k++ {
				if x.Intn(3) == 0 {
					needs = append(needs, r(i, k))
				}
			}
		}
		p, e := plan.Schedule(sample.Estate(), calendar(nothing), l, needs, x.Intn(9))
		if e != api.OK {
			continue
		}
		made++
		if f := plan.Check(sample.Estate(), calendar(nothing), p); f != api.OK {
			t.Fatalf("%v: %v", p, f)
		}
		var done api.Set
		for day := range 30 {
			for {
				due, f := plan.Due(p, done, day)
				if f != api.OK {
					t.Fatalf("%v, %v: %v", p, done, f)
				}
				if len(due) == 0 {
					break
				}
				done = append(done, due[x.Intn(len(due))])
				slices.Sort(done)
				if ok, f := order.Closed(n, p.Required, done); !ok || f != api.OK {
					t.Fatalf("%v: %v", p, done)
				}
			}
		}
		if len(done) != n {
			t.Fatalf("%v: %v", p, done)
		}
		if teams, _ := plan.Teams(calendar(nothing), l); window.Fits(calendar(nothing), teams, p.Days) != api.OK {
			t.Fatalf("%v", p)
		}
	}
	if made < 100 {
		t.Error(made)
	}
}

func TestMemory(t *testing.T) { // R3
	e, c, l, needs := sample.Estate(), calendar(nothing), changes(), []api.Required{r(0, 1)}
	p := valid(func(*api.Plan) {})
	apart(t, "Schedule", func() api.Plan { p, _ := plan.Schedule(e, c, l, needs, 0); return p }, e, c, l, needs)
	apart(t, "Teams", func() []int { t, _ := plan.Teams(c, l); return t }, c, l)
	apart(t, "Order", func() []int { return plan.Order(p) }, p)
	apart(t, "Due", func() api.Set { s, _ := plan.Due(p, nil, 9); return s }, p)
}
