package proof_test

import (
	"cipherplan/api"
	"cipherplan/conversation"
	"cipherplan/estate"
	"cipherplan/order"
	"cipherplan/policy"
	"cipherplan/proof"
	"cipherplan/rule"
	"cipherplan/sample"
	"fmt"
	"math/rand"
	"slices"
	"testing"
	"time"
)

func set(endpoint, kind, number int) api.Change {
	return api.Change{Endpoint: endpoint, Kind: kind, Number: number}
}

func r(first, then int) api.Required { return api.Required{First: first, Then: then} }

func out(version, suite int) api.Outcome { return api.Outcome{Version: version, Suite: suite} }

// pair returns an estate of one edge.
func pair() api.Estate {
	e := sample.Estate()
	return api.Estate{Endpoints: e.Endpoints[:2], Edges: e.Edges[:1]}
}

// moved returns a plan by which app and db give up suite 10 for 8: it works, since both have 8 from the beginning.
func moved() api.Plan {
	return api.Plan{Changes: []api.Change{set(0, api.DropSuite, 10), set(1, api.DropSuite, 10)}, Required: []api.Required{r(0, 1)}, Days: []int{5, 8}}
}

// text writes a proof.
func text(f api.Proof) string {
	s := ""
	for _, c := range f.Cases {
		s += fmt.Sprint(c.Edge, c.Set, c.Outcome.Version, "/", c.Outcome.Suite, " ")
	}
	return s
}

func TestMake(t *testing.T) { // P32.2
	for name, x := range map[string]struct {
		p        api.Plan
		from, to int
		want     string
		e        api.Errno
	}{
		"no changes":         {api.Plan{}, 1, 9, "0 [] 3/10 ", api.OK},
		"two":                {moved(), 1, 9, "0 [] 3/10 0 [0] 3/8 0 [0 1] 3/8 ", api.OK},
		"some do not matter": {moved(), 1, 7, "0 [] 3/10 0 [0] 3/8 ", api.OK},
		"on its day":         {moved(), 1, 8, "0 [] 3/10 0 [0] 3/8 0 [0 1] 3/8 ", api.OK},
		"none matters":       {moved(), 9, 8, "", api.OK},
		"from later":         {moved(), 9, 9, "0 [] 3/10 0 [0] 3/8 0 [0 1] 3/8 ", api.OK},
		"no order":           {api.Plan{Changes: moved().Changes, Days: []int{8, 5}}, 1, 7, "0 [] 3/10 0 [1] 3/8 ", api.OK},
		"no common suite":    {api.Plan{Changes: []api.Change{set(0, api.DropSuite, 10), set(0, api.DropSuite, 8), set(0, api.DropSuite, 2)}, Days: []int{1, 1, 1}}, 1, 7, "", api.ErrEdge},
		"not before it":      {api.Plan{Changes: []api.Change{set(0, api.DropSuite, 10), set(0, api.DropSuite, 8), set(0, api.DropSuite, 2)}, Days: []int{1, 1, 8}}, 1, 7, "0 [] 3/10 0 [0] 3/8 0 [1] 3/10 0 [0 1] 3/2 ", api.OK},
		"a state with error": {api.Plan{Changes: []api.Change{set(0, api.DropSuite, 99)}, Days: []int{1}}, 1, 7, "", api.ErrEdge},
		"an error too late":  {api.Plan{Changes: []api.Change{set(0, api.DropSuite, 99)}, Days: []int{8}}, 1, 7, "0 [] 3/10 ", api.OK},
		"chains end":         {api.Plan{}, 1, sample.Last, "", api.ErrEdge},
		"trust only then":    {api.Plan{Changes: []api.Change{set(0, api.DropAnchor, sample.Anchor)}, Days: []int{9}}, 1, 8, "0 [] 3/10 ", api.OK},
	} {
		f, e := proof.Make(pair(), x.p, x.from, x.to)
		if e != x.e || text(f) != x.want {
			t.Errorf("%s: %s, %v", name, text(f), e)
		}
		if g := proof.Check(pair(), x.p, x.from, x.to, f); g != x.e {
			t.Errorf("%s: %v", name, g)
		}
		_, fails, g := proof.Fails(pair(), x.p, x.from, x.to)
		if g != api.OK || fails != (x.e == api.ErrEdge) {
			t.Errorf("%s: %v, %v", name, fails, g)
		}
	}
}

func TestCheck(t *testing.T) { // P32.2
	good, _ := proof.Make(pair(), moved(), 1, 9)
	for name, f := range map[string]func(f *api.Proof){
		"edge":    func(f *api.Proof) { f.Cases[1].Edge++ },
		"set":     func(f *api.Proof) { f.Cases[1].Set = api.Set{1} },
		"sets":    func(f *api.Proof) { f.Cases[1].Set = nil },
		"version": func(f *api.Proof) { f.Cases[1].Outcome.Version-- },
		"suite":   func(f *api.Proof) { f.Cases[1].Outcome.Suite++ },
		"less":    func(f *api.Proof) { f.Cases = f.Cases[:2] },
		"more":    func(f *api.Proof) { f.Cases = append(f.Cases, f.Cases[2]) },
		"order":   func(f *api.Proof) { f.Cases[0], f.Cases[1] = f.Cases[1], f.Cases[0] },
		"none":    func(f *api.Proof) { f.Cases = nil },
	} {
		bad := api.Proof{Cases: slices.Clone(good.Cases)}
		f(&bad)
		if proof.Same(good, bad) || !proof.Same(bad, bad) || proof.Check(pair(), moved(), 1, 9, bad) != api.ErrProof {
			t.Error(name)
		}
	}
	if !proof.Same(api.Proof{}, api.Proof{Cases: []api.Case{}}) || proof.Check(pair(), moved(), 1, 9, good) != api.OK {
		t.Error("same")
	}
	c, fails, e := proof.Fails(pair(), api.Plan{Changes: []api.Change{set(1, api.DropSuite, 8), set(0, api.DropSuite, 10), set(0, api.DropSuite, 2)}, Days: []int{1, 1, 1}}, 1, 9)
	if e != api.OK || !fails || c.Edge != 0 || !slices.Equal(c.Set, api.Set{0, 1, 2}) || c.Outcome != out(0, 0) {
		t.Errorf("%v, %v, %v", c, fails, e)
	}
}

func TestSets(t *testing.T) { // P32.1
	l := []api.Change{set(2, 1, 1), set(0, 1, 1), set(1, 1, 1), set(2, 1, 1)}
	p := api.Plan{Changes: l, Required: []api.Required{r(0, 2), r(1, 0)}, Days: []int{1, 2, 3, 4}}
	for edge, want := range []string{"[[] [1] [1 2]]", "[[] [1] [3] [0 1] [1 3] [0 1 3]]", "[[] [0] [3] [0 2] [0 3] [0 2 3]]"} {
		if s, e := proof.Sets(sample.Estate(), p, edge); e != api.OK || fmt.Sprint(s) != want {
			t.Errorf("%d: %v, %v", edge, s, e)
		}
	}
}

// free returns a plan of many changes that need nothing.
func free(n int) api.Plan {
	var p api.Plan
	for i := range n {
		p.Changes, p.Days = append(p.Changes, set(0, api.AddAnchor, 10+i)), append(p.Days, 1)
	}
	return p
}

func TestErrors(t *testing.T) { // P32.1 to P32.3
	bad := api.Policy{Rules: []api.Rule{{}}}
	wrong := pair()
	wrong.Endpoints = slices.Clone(wrong.Endpoints)
	wrong.Endpoints[0].Most = 9
	with := func(f func(*api.Plan)) api.Plan { p := moved(); f(&p); return p }
	for name, x := range map[string]struct {
		e    api.Estate
		p    api.Plan
		want api.Errno
	}{
		"estate":      {wrong, api.Plan{Days: []int{1}}, api.ErrEstate},
		"25":          {pair(), free(25), api.ErrPlan},
		"days":        {pair(), with(func(p *api.Plan) { p.Days = p.Days[:1] }), api.ErrPlan},
		"day":         {pair(), with(func(p *api.Plan) { p.Days[0] = -1 }), api.ErrPlan},
		"a late day":  {pair(), with(func(p *api.Plan) { p.Days[0] = api.MaxDay + 1 }), api.ErrPlan},
		"no endpoint": {pair(), with(func(p *api.Plan) { p.Changes[0].Endpoint = 2 }), api.ErrPlan},
		"endpoint -1": {pair(), with(func(p *api.Plan) { p.Changes[0].Endpoint = -1 }), api.ErrPlan},
		"a need":      {pair(), with(func(p *api.Plan) { p.Required[0].Then = 2 }), api.ErrPlan},
		"a loop":      {pair(), with(func(p *api.Plan) { p.Required = []api.Required{r(0, 1), r(1, 0)} }), api.ErrPlan},
	} {
		s, e1 := proof.Sets(x.e, x.p, 9)
		f, e2 := proof.Make(x.e, x.p, -1, -1)
		c, ok, e3 := proof.Fails(x.e, x.p, -1, -1)
		e4 := proof.Check(x.e, x.p, -1, -1, api.Proof{})
		n, e5 := proof.Steps(x.e, x.p, bad, make([]api.Exception, 1), api.Owners{})
		for i, e := range []api.Errno{e1, e2, e3, e4, e5} {
			if e != x.want {
				t.Errorf("%s: %d: %v", name, i, e)
			}
		}
		if ok || len(s)+len(f.Cases)+len(c.Set)+len(n) > 0 {
			t.Errorf("%s: results with an error", name)
		}
	}
	for _, edge := range []int{-1, 1} {
		if s, e := proof.Sets(pair(), free(13), edge); e != api.ErrNone || len(s) > 0 {
			t.Errorf("%v", e)
		}
	}
	for _, days := range [][2]int{{-1, 1}, {1, -1}, {api.MaxDay + 1, 1}, {1, api.MaxDay + 1}} {
		_, e1 := proof.Make(pair(), free(13), days[0], days[1])
		_, _, e2 := proof.Fails(pair(), free(13), days[0], days[1])
		if e1 != api.ErrRange || e2 != api.ErrRange {
			t.Errorf("%v, %v", e1, e2)
		}
	}
	for _, to := range []int{0, sample.Last - 1, api.MaxDay} {
		p := api.Plan{Changes: free(2).Changes, Days: []int{0, api.MaxDay}}
		if _, e := proof.Make(pair(), p, 0, to); (e == api.OK) != (to < sample.Last) {
			t.Errorf("%d: %v", to, e)
		}
		if _, fails, e := proof.Fails(pair(), p, to, to); e != api.OK || fails != (to == api.MaxDay) {
			t.Errorf("%d: %v, %v", to, fails, e)
		}
	}
	if _, e := proof.Steps(pair(), free(13), bad, make([]api.Exception, 1), api.Owners{}); e != api.ErrRule {
		t.Error(e)
	}
	if _, e := proof.Steps(pair(), free(13), api.Policy{}, make([]api.Exception, 1), api.Owners{}); e != api.ErrException {
		t.Error(e)
	}
}

func TestLimits(t *testing.T) { // P32.1 to P32.3: ErrLimit
	begin := time.Now()
	if s, e := proof.Sets(pair(), free(12), 0); e != api.OK || len(s) != 4096 {
		t.Errorf("%d, %v", len(s), e)
	}
	if s, e := proof.Sets(pair(), free(13), 0); e != api.ErrLimit || len(s) > 0 {
		t.Errorf("%d, %v", len(s), e)
	}
	if _, fails, e := proof.Fails(pair(), free(12), 1, 9); e != api.OK || fails {
		t.Errorf("%v, %v", fails, e)
	}
	if n, e := proof.Steps(pair(), free(12), api.Policy{}, nil, api.Owners{}); e != api.OK || len(n) > 0 {
		t.Errorf("%v, %v", n, e)
	}
	most := free(24)
	for i := range 23 {
		most.Required = append(most.Required, r(i, i+1))
	}
	if s, e := proof.Sets(pair(), most, 0); e != api.OK || len(s) != 25 {
		t.Errorf("%d, %v", len(s), e)
	}
	e := sample.Estate()
	for edge := range 3 {
		if s, f := proof.Sets(e, free(12), edge); f != api.OK || len(s) != []int{4096, 4096, 1}[edge] {
			t.Errorf("%d, %v", len(s), f)
		}
	}
	_, e1 := proof.Make(e, free(12), 1, 9)
	_, _, e2 := proof.Fails(e, free(12), 1, 9)
	_, e3 := proof.Steps(e, free(12), api.Policy{}, nil, api.Owners{})
	_, e4 := proof.Make(e, free(13), 9, 1)
	if e1 != api.ErrLimit || e2 != api.ErrLimit || e3 != api.ErrLimit || e4 != api.ErrLimit {
		t.Errorf("together: %v, %v, %v, %v", e1, e2, e3, e4)
	}
	if e, f := proof.Make(e, free(10), 1, 9); f != api.OK || len(e.Cases) != 2049 {
		t.Errorf("%d, %v", len(e.Cases), f)
	}
	if time.Since(begin) > time.Minute {
		t.Error("this takes too long")
	}
}

func TestSteps(t *testing.T) { // P32.3
	p, _, _ := rule.Parse("forbid chacha from 10")
	add := func(endpoint int) api.Change { return api.Change{Endpoint: endpoint, Kind: api.AddSuite, Number: 12} }
	for name, x := range map[string]struct {
		plan api.Plan
		want []int
	}{
		"none":                {api.Plan{}, nil},
		"one end alone":       {api.Plan{Changes: []api.Change{add(0)}, Days: []int{20}}, nil},
		"before it falls":     {api.Plan{Changes: []api.Change{add(0), add(1)}, Days: []int{9, 9}}, nil},
		"the later one":       {api.Plan{Changes: []api.Change{add(0), add(1)}, Days: []int{10, 11}}, []int{1}},
		"either one":          {api.Plan{Changes: []api.Change{add(0), add(1)}, Days: []int{11, 11}}, []int{0, 1}},
		"later, by a need":    {api.Plan{Changes: []api.Change{add(0), add(1)}, Required: []api.Required{r(1, 0)}, Days: []int{11, 11}}, []int{0}},
		"the other is before": {api.Plan{Changes: []api.Change{add(0), add(1)}, Days: []int{9, 10}}, []int{1}},
		"a state with error":  {api.Plan{Changes: []api.Change{add(0), add(1), set(1, api.DropSuite, 99)}, Required: []api.Required{r(2, 1)}, Days: []int{10, 10, 10}}, nil},
	} {
		if n, e := proof.Steps(pair(), x.plan, p, nil, api.Owners{}); e != api.OK || !slices.Equal(n, x.want) {
			t.Errorf("%s: %v, %v", name, n, e)
		}
	}
}

// random returns a plan for the sample estate, most of whose changes are possible.
func random(x *rand.Rand) api.Plan {
	var p api.Plan
	n := x.Intn(5)
	for i := range n {
		suite := []int{2, 8, 10, 12, 12, 12}[x.Intn(6)]
		c := set(x.Intn(3), []int{api.DropSuite, api.AddSuite, api.AddSuite}[x.Intn(3)], suite)
		p.Changes, p.Days = append(p.Changes, c), append(p.Days, 1+x.Intn(10))
		for k := i + 1; k < n; k++ {
			if x.Intn(4) == 0 {
				p.Required = append(p.Required, r(i, k))
			}
		}
	}
	return p
}

// plain makes cases with their outcomes as the chapter says it, in the whole estate; false if an edge does not keep.
func plain(e api.Estate, p api.Plan, from, to int) (api.Proof, bool) {
	var f api.Proof
	for edge := range e.Edges {
		sets, _ := proof.Sets(e, p, edge)
		for _, s := range sets {
			first := from
			for _, i := range s {
				first = max(first, p.Days[i])
			}
			if first > to {
				continue
			}
			state, g := estate.State(e, p.Changes, s)
			o, h := conversation.During(state, edge, first, to)
			if g != api.OK || h != api.OK {
				return api.Proof{}, false
			}
			f.Cases = append(f.Cases, api.Case{Edge: edge, Set: s, Outcome: o})
		}
	}
	return f, true
}

// TestAtRandom holds Make and Steps against the whole estate, and against all closed sets of all changes.
func TestAtRandom(t *testing.T) {
	x := rand.New(rand.NewSource(1))
	e := sample.Estate()
	law, _, _ := rule.Parse("forbid chacha from 2\nforbid aescbc from 3")
	proved, named := 0, 0
	for range 250 {
		p := random(x)
		want, ok := plain(e, p, 1, 9)
		f, g := proof.Make(e, p, 1, 9)
		if (g == api.OK) != ok || !proof.Same(f, want) {
			t.Fatalf("%v: %v, %v, not %v", p, f, g, want)
		}
		sets, _ := order.Sets(len(p.Changes), p.Required)
		can := map[int]bool{}
		for _, s := range sets {
			state, g := estate.State(e, p.Changes, s)
			if g != api.OK {
				continue
			}
			for day := 1; day <= 9 && ok; day++ {
				come := !slices.ContainsFunc(s, func(i int) bool { return p.Days[i] > day })
				if _, broken, _ := conversation.All(state, day); come && len(broken) > 0 {
					t.Fatalf("%v, %v, %d: %v", p, s, day, broken)
				}
			}
			ready, _ := order.Ready(len(p.Changes), p.Required, s)
			for _, c := range ready {
				more := append(slices.Clone(s), c)
				slices.Sort(more)
				after, g := estate.State(e, p.Changes, more)
				come := !slices.ContainsFunc(s, func(i int) bool { return p.Days[i] > p.Days[c] })
				if edges, _ := policy.Step(state, after, law, nil, api.Owners{}, p.Days[c]); come && g == api.OK && len(edges) > 0 {
					can[c] = true
				}
			}
		}
		steps, g := proof.Steps(e, p, law, nil, api.Owners{})
		for c := range can {
			if !slices.Contains(steps, c) || g != api.OK {
				t.Fatalf("%v: %v lacks %d", p, steps, c)
			}
			named++
		}
		if ok {
			proved++
		}
	}
	if proved < 20 || named < 20 {
		t.Errorf("%d proved, %d named", proved, named)
	}
}

func TestMemory(t *testing.T) { // R3
	e, p := sample.Estate(), moved()
	law, _, _ := rule.Parse("forbid any")
	apart(t, "Sets", func() []api.Set { s, _ := proof.Sets(e, p, 0); return s }, e, p)
	apart(t, "Make", func() api.Proof { f, _ := proof.Make(e, p, 1, 9); return f }, e, p)
	apart(t, "Fails", func() api.Case { c, _, _ := proof.Fails(e, p, 1, sample.Last); return c }, e, p)
	apart(t, "Steps", func() []int { n, _ := proof.Steps(e, p, law, nil, api.Owners{}); return n }, e, p, law)
}
