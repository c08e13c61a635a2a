package audit_test

import (
	"cipherplan/api"
	"cipherplan/audit"
	"cipherplan/clone"
	"cipherplan/journal"
	"cipherplan/planner"
	"cipherplan/proof"
	"cipherplan/rule"
	"cipherplan/runner"
	"cipherplan/sample"
	"cipherplan/script"
	"math"
	"math/rand"
	"reflect"
	"slices"
	"testing"
)

// begun returns a world in which the plan of the samples is carried out.
func begun(t *testing.T) api.World {
	t.Helper()
	p, _, _ := rule.Parse("forbid chacha from 2")
	w, e := script.New(sample.Estate(), p, nil, api.Owners{}, sample.Plan(), 1)
	if e != api.OK {
		t.Fatal(e)
	}
	return w
}

func act(kind, number int) api.Act { return api.Act{Kind: kind, Number: number} }

// drift changes an endpoint.
func drift(at, kind, number int) api.Act {
	return api.Act{Kind: api.ActDrift, Number: at, Change: api.Change{Kind: kind, Number: number}}
}

// see observes the greatest version of a host.
func see(host string, day, most int) api.Act {
	return api.Act{Kind: api.ActObserve, Finding: api.Finding{Source: 6, Host: host, Day: day, Confidence: 9, Kind: api.FindMost, Subject: "tls", Number: most}}
}

// after returns the world behind some acts.
func after(w api.World, l ...api.Act) api.World {
	w, _ = script.Run(w, l)
	return w
}

// finished returns a world whose run has ended.
func finished(t *testing.T) api.World {
	return after(begun(t), act(2, 0), act(2, 0), act(1, 3), act(2, 0), act(2, 0), act(2, 0))
}

func TestCheck(t *testing.T) { // P45.1
	for name, w := range map[string]api.World{"new": begun(t), "zero": {}, "finished": finished(t), "stopped": after(begun(t), see("app", 1, 4), drift(0, api.SetMost, 4)), "undone": after(begun(t), act(2, 0), act(3, 0))} {
		if n := audit.Check(w); n != 0 {
			t.Errorf("%s: %d", name, n)
		}
	}
	decision := func(kind, value int) api.Decision {
		return api.Decision{Day: 3, Kind: kind, Subject: 0, Value: value}
	}
	write := func(w *api.World, d api.Decision) {
		w.Journal, _ = journal.Append(w.Journal, d)
		w.Ledger.Decisions = append(w.Ledger.Decisions, d)
	}
	for name, x := range map[string]struct {
		f    func(*api.World)
		want int
	}{
		"steps":               {func(w *api.World) { w.Run.Steps = w.Run.Steps[:2] }, 1},
		"no such step":        {func(w *api.World) { w.Run.Steps[0] = 9 }, 1},
		"not closed":          {func(w *api.World) { w.Run.Steps[0] = api.StepWaiting }, 1},
		"no model":            {func(w *api.World) { w.Estate.Endpoints[0].Most = 9; w.Run.Stopped = true }, 1},
		"drift":               {func(w *api.World) { w.Hosts[0].Endpoint.Most = 4 }, 2},
		"not really done":     {func(w *api.World) { w.Run.Steps[4] = api.StepWaiting }, 2},
		"ledger":              {func(w *api.World) { w.Ledger.Decisions[0].Kind = 9 }, 3},
		"ledger order":        {func(w *api.World) { w.Ledger.Decisions[0].Day = 9 }, 3},
		"less ledger":         {func(w *api.World) { w.Ledger.Decisions = w.Ledger.Decisions[1:] }, 3},
		"less journal":        {func(w *api.World) { w.Journal = w.Journal[:48] }, 3},
		"torn journal":        {func(w *api.World) { w.Journal += "x" }, 3},
		"a journal not right": {func(w *api.World) { w.Journal = "x" + w.Journal[1:] }, 3},
		"nothing decided":     {func(w *api.World) { w.Journal, w.Ledger = "", api.Ledger{} }, 4},
		"decided otherwise":   {func(w *api.World) { write(w, decision(api.DecideChange, 0)) }, 4},
		"decided for another": {func(w *api.World) { w.Run.Steps[4] = api.StepWaiting; w.Run.Stopped = true }, 4},
		"decided to stop":     {func(w *api.World) { write(w, decision(api.DecideStop, 0)) }, 0},
		"drift, but stopped":  {func(w *api.World) { w.Hosts[0].Endpoint.Most = 4; w.Run.Stopped = true }, 0},
		"the first counts":    {func(w *api.World) { w.Hosts[0].Endpoint.Most = 4; w.Journal = "" }, 2},
		"and its number":      {func(w *api.World) { w.Run.Steps = nil; w.Hosts[0].Endpoint.Most = 4 }, 1},
	} {
		w := finished(t)
		x.f(&w)
		if n := audit.Check(w); n != x.want {
			t.Errorf("%s: %d", name, n)
		}
	}
}

func TestKeeps(t *testing.T) { // P45.2
	w := begun(t)
	broken := after(w, drift(1, api.DropIdentity, 2))
	for _, x := range []struct {
		w    api.World
		to   int
		want []int
		e    api.Errno
	}{
		{w, 9, nil, api.OK},
		{w, sample.Last - 1, nil, api.OK},
		{w, sample.Last, []int{0, 1, 2}, api.OK},
		{broken, 9, []int{0, 2}, api.OK},
		{after(w, act(1, sample.Last)), 9, []int{0, 1, 2}, api.OK},
		{w, -1, nil, api.ErrRange},
		{w, 0, nil, api.OK},
		{w, api.MaxDay, []int{0, 1, 2}, api.OK},
		{w, api.MaxDay + 1, nil, api.ErrRange},
		{api.World{}, 1, nil, api.OK},
		{api.World{}, -1, nil, api.ErrRange},
	} {
		if l, e := audit.Keeps(x.w, x.to); e != x.e || !slices.Equal(l, x.want) {
			t.Errorf("%d: %v, %v", x.to, l, e)
		}
	}
	odd := clone.World(w)
	odd.Hosts[1].Endpoint.Most = 9
	if l, e := audit.Keeps(odd, -1); e != api.ErrEstate || len(l) > 0 {
		t.Errorf("%v, %v", l, e)
	}
}

func TestForbidden(t *testing.T) { // P45.2
	add := func(at int) api.Act { return drift(at, api.AddSuite, 12) }
	w := begun(t)
	one, two := after(w, add(0)), after(w, add(0), add(1))
	later := after(two, act(1, 2))
	for name, x := range map[string]struct {
		before, after api.World
		want          []int
		e             api.Errno
	}{
		"nothing":            {w, w, nil, api.OK},
		"one end":            {w, one, nil, api.OK},
		"both, before it":    {one, two, nil, api.OK},
		"both":               {one, later, []int{0}, api.OK},
		"back":               {later, after(one, act(1, 2)), nil, api.OK},
		"by the other's law": {later, w, nil, api.OK},
		"zero worlds":        {api.World{}, api.World{}, nil, api.OK},
		"other edges":        {api.World{}, w, nil, api.ErrEdge},
	} {
		if l, e := audit.Forbidden(x.before, x.after); e != x.e || !slices.Equal(l, x.want) {
			t.Errorf("%s: %v, %v", name, l, e)
		}
	}
}

func TestEnded(t *testing.T) { // P45.2
	none := sample.Estate()
	none.Edges = nil
	quiet, _ := script.New(none, api.Policy{}, nil, api.Owners{}, api.Plan{}, 5)
	found := after(quiet, api.Act{Kind: api.ActObserve, Finding: api.Finding{Source: 1, Host: "x", Day: 4, Confidence: 1, Kind: api.FindUse, Subject: "y", Use: api.Use{Alg: api.MD5}}})
	for name, x := range map[string]struct {
		w             api.World
		gap, age, alg int
		want          api.Errno
	}{
		"not finished":   {begun(t), -1, -1, 99, api.ErrPlan},
		"finished":       {finished(t), 1, 1, api.DES3, api.OK},
		"still there":    {finished(t), 1, 1, api.AESGCM, api.ErrMethod},
		"possible":       {finished(t), 1, 1, api.RC4, api.ErrMethod},
		"no edges":       {quiet, 1, 1, api.RC4, api.OK},
		"evidence":       {found, 1, 1, api.MD5, api.ErrMethod},
		"old evidence":   {found, 1, 0, api.MD5, api.OK},
		"no algorithm":   {finished(t), 1, 1, 99, api.ErrUse},
		"gap":            {finished(t), -1, 1, 99, api.ErrRange},
		"the zero world": {api.World{}, 1, 1, api.RC4, api.OK},
	} {
		if e := audit.Ended(x.w, x.gap, x.age, x.alg); e != x.want {
			t.Errorf("%s: %v", name, e)
		}
	}
}

func TestHistory(t *testing.T) { // P45.3
	add := func(at int) api.Act { return drift(at, api.AddSuite, 12) }
	odd := finished(t)
	odd.Journal += "x"
	open := sample.Plan()
	p, _, _ := rule.Parse("forbid chacha")
	open.Changes = []api.Change{{Endpoint: 0, Kind: api.SetFallback, Number: 1}}
	open.Days, open.Required = []int{1}, nil
	enabled, _ := script.New(sample.Estate(), p, nil, api.Owners{}, open, 1)
	for name, x := range map[string]struct {
		w    api.World
		l    []api.Act
		want api.Breach
		n    int // how many acts are done
	}{
		"nothing":          {begun(t), nil, api.Breach{}, 0},
		"all right":        {begun(t), []api.Act{act(2, 0), act(2, 9), {}, act(2, 0)}, api.Breach{}, 4},
		"a drift":          {begun(t), []api.Act{act(2, 0), drift(0, api.SetMost, 4), act(2, 0)}, api.Breach{Rule: 2, Act: 1}, 2},
		"when stopped":     {begun(t), []api.Act{see("app", 1, 4), drift(0, api.SetMost, 4), drift(1, api.SetMost, 4)}, api.Breach{}, 3},
		"wrong before":     {odd, []api.Act{act(2, 0), act(2, 0)}, api.Breach{Rule: 3, Act: 0}, 1},
		"wrong, no act":    {odd, nil, api.Breach{}, 0},
		"by an error, too": {odd, []api.Act{{}, act(2, 0)}, api.Breach{Rule: 3, Act: 0}, 1},
		"drift may enable": {after(enabled, see("app", 1, 4)), []api.Act{add(0), add(1), act(1, 5)}, api.Breach{}, 3},
		"the zero world":   {api.World{}, []api.Act{act(1, 5), act(2, 0), act(6, 0), act(7, 0), see("x", 1, 1)}, api.Breach{}, 5},
	} {
		w, b := audit.History(x.w, x.l)
		if b != x.want || !script.Same(w, after(x.w, x.l[:x.n]...)) {
			t.Errorf("%s: %v", name, b)
		}
	}
}

func TestEnabled(t *testing.T) { // P45.3, rule 5: where a host has drifted, a step can enable what the model had already
	p, _, _ := rule.Parse("forbid chacha")
	e := sample.Estate()
	e.Endpoints[0].Suites, e.Endpoints[1].Suites = []int{10, 12}, []int{10, 12}
	q := api.Plan{Changes: []api.Change{{Endpoint: 1, Kind: api.AddAnchor, Number: 7}}, Days: []int{1}}
	w, f := script.New(e, p, nil, api.Owners{}, q, 1)
	if f != api.OK {
		t.Fatal(f)
	}
	drifted := after(w, drift(1, api.DropSuite, 12))
	if got, b := audit.History(drifted, []api.Act{act(2, 9), act(2, 0), act(1, 9)}); b != (api.Breach{Rule: 2, Act: 0}) || !script.Same(got, drifted) {
		t.Errorf("%v", b)
	}
	if got, b := audit.History(drifted, []api.Act{act(2, 0), act(1, 9)}); b != (api.Breach{Rule: 5, Act: 0}) || !script.Same(got, after(drifted, act(2, 0))) {
		t.Errorf("%v", b)
	}
	if _, b := audit.History(w, []api.Act{act(2, 0), act(1, 9)}); b != (api.Breach{}) {
		t.Errorf("%v", b)
	}
	stopped := after(w, see("app", 1, 4), drift(1, api.DropSuite, 12))
	if _, b := audit.History(stopped, []api.Act{{Kind: api.ActDrift, Number: 1, Change: api.Change{Kind: api.AddSuite, Number: 12, At: 1}}, act(7, 0)}); b != (api.Breach{}) {
		t.Errorf("a drift: %v", b)
	}
}

// random returns an act that is often possible, but no drift.
func random(x *rand.Rand) api.Act {
	switch x.Intn(9) {
	case 0:
		return act(api.ActDay, 1+x.Intn(5))
	case 1:
		return act(api.ActUndo, x.Intn(5))
	case 2:
		return see([]string{"app", "db", "web"}[x.Intn(3)], 1+x.Intn(4), 3+x.Intn(6)/5)
	case 3:
		return act(api.ActCrash, x.Intn(100))
	case 4:
		return act(api.ActResume, 0)
	}
	return act(api.ActTry, x.Intn(4))
}

// TestNoBreach checks the consequences at random: without a drift no rule is violated; and if the plan has a proof, all edges work at any time up to its last day.
func TestNoBreach(t *testing.T) {
	x := rand.New(rand.NewSource(1))
	if _, e := proof.Make(sample.Estate(), sample.Plan(), 1, 50); e != api.OK {
		t.Fatal(e)
	}
	for range 60 {
		var l []api.Act
		for range 40 {
			l = append(l, random(x))
		}
		w, b := audit.History(begun(t), l)
		if b != (api.Breach{}) || !script.Same(w, after(begun(t), l...)) {
			t.Fatalf("%v: %v", l, b)
		}
		step := begun(t)
		for k, a := range l {
			step, _ = script.Do(step, a)
			if broken, e := audit.Keeps(step, 50); e != api.OK || len(broken) > 0 {
				t.Fatalf("%v: %v, %v", l[:k+1], broken, e)
			}
		}
	}
}

// TestMigration makes a plan that takes rc4 away, carries it out on hosts that fail, and shows that it is gone (T6 to T8).
func TestMigration(t *testing.T) {
	law, _, _ := rule.Parse("forbid rc4 from 30")
	c := api.Calendar{Team: []int{0, 1, 0}, Room: []int{1, 2}}
	for i := range 10 {
		c.Windows = append(c.Windows, api.Window{Days: api.Span{From: 3 * i, To: 3*i + 2}, Teams: []int{0, 1}})
	}
	changes := append(sample.Plan().Changes, api.Change{Endpoint: 0, Kind: api.DropSuite, Number: 2}, api.Change{Endpoint: 2, Kind: api.DropSuite, Number: 2})
	p, f, e := planner.Make(sample.Estate(), c, changes, law, nil, api.Owners{}, 1, 60)
	if e != api.OK || proof.Check(sample.Estate(), p, 1, 60, f) != api.OK {
		t.Fatalf("%v", e)
	}
	w, e := script.New(sample.Estate(), law, nil, api.Owners{}, p, 1)
	if e != api.OK {
		t.Fatal(e)
	}
	x := rand.New(rand.NewSource(2))
	for day := 1; day < 40; day++ {
		l := []api.Act{act(api.ActDay, day), act(api.ActTry, x.Intn(4)), act(api.ActTry, x.Intn(3)), act(api.ActTry, 0)}
		var b api.Breach
		if w, b = audit.History(w, l); b != (api.Breach{}) {
			t.Fatalf("day %d: %v", day, b)
		}
		if broken, e := audit.Keeps(w, 60); e != api.OK || len(broken) > 0 {
			t.Fatalf("day %d: %v, %v", day, broken, e)
		}
		if ended := audit.Ended(w, 5, 100, api.RC4); !runner.Finished(w.Run) && ended != api.ErrPlan || runner.Finished(w.Run) && ended != api.OK {
			t.Fatalf("day %d: %v", day, ended)
		}
	}
	if !runner.Finished(w.Run) {
		t.Errorf("%v", w.Run)
	}
	late, _ := script.Do(w, api.Act{Kind: api.ActObserve, Finding: api.Finding{Source: 6, Host: "db", Day: 38, Confidence: 9, Kind: api.FindSuite, Subject: "tls", Number: 2}})
	if e := audit.Ended(late, 5, 100, api.RC4); e != api.ErrMethod {
		t.Errorf("late evidence: %v", e)
	}
}

func TestOdd(t *testing.T) { // R1: worlds that are none
	w := begun(t)
	w.Hosts = nil
	w.Run.Day = math.MinInt
	w.Run.Steps = []int{1, 1, 1, 1, 1, 1, 1, 1, 1}
	audit.Check(w)
	audit.Keeps(w, 5)
	audit.Forbidden(w, begun(t))
	audit.Ended(w, 1, 1, 1)
	audit.History(w, []api.Act{act(2, 0), act(3, 0), act(6, 0), act(7, 0)})
}

func TestMemory(t *testing.T) { // R3
	w := finished(t)
	apart(t, "History", func() api.World { x, _ := audit.History(w, []api.Act{act(1, 9)}); return x }, w)
	apart(t, "History of nothing", func() api.World { x, _ := audit.History(w, nil); return x }, w)
	apart(t, "Keeps", func() []int { l, _ := audit.Keeps(w, sample.Last); return l }, w)
	apart(t, "Forbidden", func() []int { l, _ := audit.Forbidden(begun(t), w); return l }, w)
	if l, _ := audit.Keeps(w, 5); !reflect.DeepEqual(l, []int(nil)) {
		t.Error(l)
	}
}
