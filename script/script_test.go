package script_test

import (
	"cipherplan/api"
	"cipherplan/clone"
	"cipherplan/endpoint"
	"cipherplan/estate"
	"cipherplan/finding"
	"cipherplan/host"
	"cipherplan/journal"
	"cipherplan/ledger"
	"cipherplan/rule"
	"cipherplan/runner"
	"cipherplan/sample"
	"cipherplan/script"
	"math/rand"
	"reflect"
	"slices"
	"testing"
)

// begun returns a world in which the plan of the samples is carried out.
func begun(t *testing.T) api.World {
	t.Helper()
	p, _, _ := rule.Parse("forbid chacha from 2")
	w, e := script.New(sample.Estate(), p, nil, api.Owners{Keys: []int{5}, Need: 1}, sample.Plan(), 1)
	if e != api.OK {
		t.Fatal(e)
	}
	return w
}

func act(kind, number int) api.Act { return api.Act{Kind: kind, Number: number} }

func try(fault int) api.Act { return act(api.ActTry, fault) }

// drift changes an endpoint.
func drift(at int, kind, number int) api.Act {
	return api.Act{Kind: api.ActDrift, Number: at, Change: api.Change{Kind: kind, Number: number}}
}

// see observes the greatest version of a host.
func see(host string, day, most int) api.Act {
	return api.Act{Kind: api.ActObserve, Finding: api.Finding{Source: 6, Host: host, Day: day, Confidence: 9, Kind: api.FindMost, Subject: "tls", Number: most}}
}

// do does acts all of which are possible.
func do(t *testing.T, w api.World, l ...api.Act) api.World {
	t.Helper()
	for i, a := range l {
		next, e := script.Do(w, a)
		if e != api.OK {
			t.Fatalf("%d, %v: %v", i, a, e)
		}
		w = next
	}
	return w
}

func decision(w api.World, kind, subject, value int) api.Decision {
	return api.Decision{Day: w.Run.Day, Known: len(w.Findings), Kind: kind, Subject: subject, Value: value}
}

// decided returns a world with one more decision.
func decided(t *testing.T, w api.World, d api.Decision) api.World {
	t.Helper()
	var e, f api.Errno
	w.Ledger, e = ledger.Add(w.Ledger, d)
	w.Journal, f = journal.Append(w.Journal, d)
	if e != api.OK || f != api.OK {
		t.Fatal(e, f)
	}
	return w
}

func TestNew(t *testing.T) { // P44.1
	w := begun(t)
	run, _ := runner.New(sample.Plan(), 1)
	want := api.World{Estate: sample.Estate(), Policy: w.Policy, Owners: api.Owners{Keys: []int{5}, Need: 1}, Run: run}
	for _, e := range sample.Estate().Endpoints {
		want.Hosts = append(want.Hosts, api.Host{Endpoint: e})
	}
	if !script.Same(w, want) {
		t.Errorf("%v", w)
	}
	model, e := script.Model(w)
	if e != api.OK || !estate.Same(model, sample.Estate()) || !estate.Same(script.Actual(w), sample.Estate()) {
		t.Errorf("%v, %v", model, e)
	}
	bad, none := api.Policy{Rules: []api.Rule{{}}}, make([]api.Exception, 1)
	wrong := sample.Estate()
	wrong.Endpoints[0].Most = 9
	elsewhere := api.Plan{Changes: []api.Change{{Endpoint: 3}}, Days: []int{1}}
	for i, x := range []struct {
		e    api.Estate
		p    api.Policy
		x    []api.Exception
		q    api.Plan
		day  int
		want api.Errno
	}{
		{wrong, bad, none, elsewhere, -1, api.ErrEstate},
		{sample.Estate(), bad, none, elsewhere, -1, api.ErrRule},
		{sample.Estate(), api.Policy{}, none, elsewhere, -1, api.ErrException},
		{sample.Estate(), api.Policy{}, nil, elsewhere, -1, api.ErrRange},
		{sample.Estate(), api.Policy{}, nil, api.Plan{Changes: elsewhere.Changes}, 1, api.ErrPlan},
		{sample.Estate(), api.Policy{}, nil, elsewhere, 1, api.ErrChange},
		{sample.Estate(), api.Policy{}, nil, api.Plan{Changes: []api.Change{{Endpoint: -1}}, Days: []int{1}}, 1, api.ErrChange},
	} {
		if w, e := script.New(x.e, x.p, x.x, api.Owners{}, x.q, x.day); e != x.want || !reflect.DeepEqual(w, api.World{}) {
			t.Errorf("%d: %v", i, e)
		}
	}
}

func TestDay(t *testing.T) { // P44.2
	w := begun(t)
	want := clone.World(w)
	want.Run.Day = 5
	if got := do(t, w, act(api.ActDay, 5)); !script.Same(got, want) {
		t.Errorf("%v", got.Run)
	}
	for _, day := range []int{0, -1, api.MaxDay + 1} {
		if got, e := script.Do(w, act(api.ActDay, day)); e != api.ErrRange || !script.Same(got, w) {
			t.Errorf("%d: %v", day, e)
		}
	}
}

func TestTry(t *testing.T) { // P44.2
	w := begun(t)
	after, _ := estate.State(w.Estate, w.Run.Plan.Changes, api.Set{0})
	for fault, works := range map[int]bool{api.FaultNone: true, api.FaultSilent: true, api.FaultFail: false, api.FaultLost: false} {
		want := clone.World(w)
		want.Run.Tries[0] = 1
		want.Run.Steps[0] = api.StepFailed
		if works {
			want.Run.Steps[0] = api.StepDone
			want.Hosts[0], _, _ = host.Try(want.Hosts[0], after.Endpoints[0], api.FaultNone)
			want = decided(t, want, decision(want, api.DecideChange, 0, 1))
		}
		got := do(t, w, try(fault))
		if !script.Same(got, want) {
			t.Errorf("%d: %v, %v", fault, got.Run, got.Ledger)
		}
		model, _ := script.Model(got)
		if !estate.Same(script.Actual(got), model) {
			t.Errorf("%d: not in step", fault)
		}
	}
	all := do(t, w, try(0), try(0), act(api.ActDay, 9), try(0), try(0), try(0))
	if !runner.Finished(all.Run) || len(all.Ledger.Decisions) != 5 || endpoint.Same(all.Hosts[1].Endpoint, w.Hosts[1].Endpoint) {
		t.Errorf("%v", all.Run)
	}
	if l, _ := journal.Open(all.Journal); !slices.Equal(l, all.Ledger.Decisions) {
		t.Errorf("%v", l)
	}
}

func TestTryErrors(t *testing.T) { // P44.2
	w := begun(t)
	stopped := do(t, w, see("app", 1, 4))
	later := api.Plan{Changes: []api.Change{{Endpoint: 0, Kind: api.AddSuite, Number: 12}, {Endpoint: 1, Kind: api.AddSuite, Number: 12}, {Kind: api.DropSuite, Number: 99}}, Days: []int{1, 2, 3}, Required: []api.Required{{First: 1, Then: 2}}}
	forbidden, _ := script.New(w.Estate, w.Policy, nil, api.Owners{}, later, 1)
	forbidden = do(t, forbidden, try(0))
	waiting := do(t, w, try(0), try(0))
	impossible, _ := script.New(w.Estate, w.Policy, nil, api.Owners{}, api.Plan{Changes: later.Changes[2:], Days: []int{1}}, 1)
	for name, x := range map[string]struct {
		w     api.World
		fault int
		want  api.Errno
	}{
		"stopped":    {stopped, 9, api.ErrStop},
		"none":       {waiting, 9, api.ErrNone},
		"fault":      {w, 4, api.ErrRange},
		"fault -1":   {w, -1, api.ErrRange},
		"impossible": {impossible, 0, api.ErrDone},
		"forbidden":  {do(t, forbidden, act(api.ActDay, 2)), 0, api.ErrForbid},
		"fault 9":    {do(t, forbidden, act(api.ActDay, 2)), 9, api.ErrRange},
		"fault -9":   {impossible, -9, api.ErrRange},
	} {
		if got, e := script.Do(x.w, try(x.fault)); e != x.want || !script.Same(got, x.w) {
			t.Errorf("%s: %v", name, e)
		}
	}
	if got, e := script.Do(do(t, w, try(3), try(1), try(3), try(1), try(0)), try(0)); e != api.ErrNone || got.Run.Tries[0] != 4 || got.Run.Steps[1] != api.StepDone {
		t.Errorf("after four tries: %v, %v", got.Run, e)
	}
	drifted := do(t, w, drift(0, api.SetMost, 4), try(api.FaultFail))
	if !drifted.Run.Stopped || drifted.Run.Steps[0] != api.StepWaiting || drifted.Run.Tries[0] != 1 || len(drifted.Ledger.Decisions) != 1 || drifted.Ledger.Decisions[0] != decision(w, api.DecideStop, 0, 1) {
		t.Errorf("%v, %v", drifted.Run, drifted.Ledger)
	}
	healed := do(t, w, drift(0, api.SetMost, 4), try(api.FaultNone))
	if healed.Run.Stopped || healed.Run.Steps[0] != api.StepDone || healed.Hosts[0].Endpoint.Most != 3 {
		t.Errorf("%v", healed.Run)
	}
}

func TestUndo(t *testing.T) { // P44.2
	w := begun(t)
	two := do(t, w, try(0), try(0), see("x", 1, 3), act(api.ActDay, 2))
	got := do(t, two, act(api.ActUndo, 0))
	want := clone.World(two)
	want.Run.Steps[0], want.Run.Tries[0] = api.StepUndone, 0
	want.Hosts[0], _, _ = host.Try(want.Hosts[0], sample.Estate().Endpoints[0], api.FaultNone)
	want = decided(t, want, api.Decision{Day: 2, Known: 1, Kind: api.DecideChange, Subject: 0, Value: 0})
	if !script.Same(got, want) {
		t.Errorf("%v, %v", got.Run, got.Ledger)
	}
	again := do(t, got, try(0))
	if again.Run.Steps[0] != api.StepDone || len(again.Ledger.Decisions) != 4 {
		t.Errorf("%v", again.Run)
	}
	three := do(t, two, try(0))
	for name, x := range map[string]struct {
		w    api.World
		step int
		want api.Errno
	}{
		"needed":   {three, 0, api.ErrNeed},
		"not done": {two, 3, api.ErrNeed},
		"no step":  {two, 5, api.ErrNeed},
		"step -1":  {two, -1, api.ErrNeed},
		"stopped":  {do(t, two, see("app", 2, 4)), 0, api.ErrStop},
	} {
		if got, e := script.Do(x.w, act(api.ActUndo, x.step)); e != x.want || !script.Same(got, x.w) {
			t.Errorf("%s: %v", name, e)
		}
	}
	drifted := do(t, two, drift(0, api.SetMost, 4), act(api.ActUndo, 0))
	if !endpoint.Same(drifted.Hosts[0].Endpoint, sample.Estate().Endpoints[0]) {
		t.Error("what drifted stays")
	}
	drop := api.Plan{Changes: []api.Change{{Endpoint: 0, Kind: api.DropSuite, Number: 12}}, Days: []int{1}}
	both := sample.Estate()
	both.Endpoints[0].Suites, both.Endpoints[1].Suites = []int{10, 12}, []int{10, 12}
	dropped, _ := script.New(both, w.Policy, nil, api.Owners{}, drop, 2)
	dropped = do(t, dropped, try(0))
	if got, e := script.Do(dropped, act(api.ActUndo, 0)); e != api.ErrForbid || !script.Same(got, dropped) {
		t.Errorf("undoing enables something forbidden: %v", e)
	}
}

func TestDrift(t *testing.T) { // P44.2
	w := begun(t)
	got := do(t, w, drift(2, api.SetMost, 4))
	want := clone.World(w)
	want.Hosts[2].Endpoint.Most = 4
	if !script.Same(got, want) {
		t.Errorf("%v", got.Hosts)
	}
	if model, e := script.Model(got); e != api.OK || !estate.Same(model, sample.Estate()) || script.Actual(got).Endpoints[2].Most != 4 {
		t.Errorf("%v", e)
	}
	for _, x := range []struct {
		a    api.Act
		want api.Errno
	}{{drift(3, api.SetMost, 4), api.ErrNone}, {drift(-1, api.SetMost, 4), api.ErrNone}, {drift(0, 0, 0), api.ErrChange}, {drift(0, api.SetMost, 3), api.ErrDone}} {
		if got, e := script.Do(w, x.a); e != x.want || !script.Same(got, w) {
			t.Errorf("%v: %v", x.a, e)
		}
	}
}

func TestObserve(t *testing.T) { // P44.2
	w := begun(t)
	for name, x := range map[string]struct {
		a       api.Act
		stopped bool
	}{"agrees": {see("app", 1, 3), false}, "contradicts": {see("app", 1, 4), true}, "another day": {see("app", 2, 4), false}, "another host": {see("x", 1, 4), false}} {
		got := do(t, w, x.a)
		want := clone.World(w)
		want.Findings = []api.Finding{x.a.Finding}
		if x.stopped {
			want.Run.Stopped = true
			want = decided(t, want, decision(want, api.DecideStop, 0, 1))
		}
		if !script.Same(got, want) {
			t.Errorf("%s: %v, %v, %v", name, got.Findings, got.Run, got.Ledger)
		}
	}
	twice := do(t, w, see("app", 1, 4), see("app", 1, 2))
	if len(twice.Findings) != 2 || len(twice.Ledger.Decisions) != 1 || twice.Findings[0].Number != 2 {
		t.Errorf("%v, %v", twice.Findings, twice.Ledger)
	}
	if again := do(t, twice, see("app", 1, 2)); !script.Same(again, twice) {
		t.Error("a finding that was there")
	}
	if got, e := script.Do(w, api.Act{Kind: api.ActObserve}); e != api.ErrFinding || !script.Same(got, w) {
		t.Error(e)
	}
	full := clone.World(w)
	for i := range 400 {
		full.Findings = append(full.Findings, see("x", i, 1).Finding)
	}
	if got, e := script.Do(full, see("x", 400, 1)); e != api.ErrLimit || !script.Same(got, full) {
		t.Error(e)
	}
	changed := do(t, w, try(0)) // the model has the anchor 7 then
	trust := see("app", 1, 1)
	trust.Finding.Kind, trust.Finding.Number = api.FindTrust, 7
	if got := do(t, changed, trust); got.Run.Stopped {
		t.Error("the model has changed")
	}
	if got := do(t, w, trust); !got.Run.Stopped {
		t.Error("the model has not changed")
	}
}

func TestCrash(t *testing.T) { // P44.2
	w := do(t, begun(t), try(0), try(api.FaultFail), try(0), act(api.ActDay, 2), try(0))
	for safe, x := range map[int]struct {
		done    api.Set
		stopped bool
	}{-5: {nil, true}, 0: {nil, true}, 11: {nil, true}, 12: {api.Set{0}, true}, 24: {api.Set{0, 1}, true}, 35: {api.Set{0, 1}, true}, 36: {api.Set{0, 1, 2}, false}, 99: {api.Set{0, 1, 2}, false}} {
		got := do(t, w, act(api.ActCrash, safe))
		want := clone.World(w)
		want.Journal = w.Journal[:12*len(x.done)]
		want.Ledger.Decisions = want.Ledger.Decisions[:len(x.done)]
		clear(want.Run.Steps)
		clear(want.Run.Tries)
		for _, i := range x.done {
			want.Run.Steps[i] = api.StepDone
		}
		want.Run.Stopped = x.stopped
		if !script.Same(got, want) {
			t.Errorf("%d: %v, %v", safe, got.Run, got.Ledger)
		}
	}
	stopped := do(t, w, see("app", 2, 4), act(api.ActCrash, 999))
	if !stopped.Run.Stopped {
		t.Error("a run that was stopped stays so")
	}
	undone := do(t, begun(t), try(0), act(api.ActUndo, 0))
	if got := do(t, undone, act(api.ActCrash, 24)); got.Run.Steps[0] != api.StepWaiting || got.Run.Stopped {
		t.Errorf("%v", got.Run)
	}
	if got := do(t, undone, act(api.ActCrash, 12)); got.Run.Steps[0] != api.StepDone || !got.Run.Stopped {
		t.Errorf("%v", got.Run)
	}
	odd := clone.World(w)
	odd.Journal = ""
	odd = decided(t, odd, decision(odd, api.DecideChange, 3, 1))
	if got, e := script.Do(odd, act(api.ActCrash, 999)); e != api.ErrSet || !script.Same(got, odd) {
		t.Errorf("not closed: %v", e)
	}
}

func TestResume(t *testing.T) { // P44.2
	w := begun(t)
	stopped := do(t, w, see("app", 1, 4))
	got := do(t, stopped, act(api.ActResume, 0))
	want := clone.World(stopped)
	want.Run.Stopped = false
	if !script.Same(got, want) {
		t.Errorf("%v", got.Run)
	}
	drifted := do(t, stopped, drift(0, api.SetMost, 4))
	for name, x := range map[string]struct {
		w    api.World
		want api.Errno
	}{"not stopped": {w, api.ErrStop}, "not in step": {drifted, api.ErrModel}} {
		if got, e := script.Do(x.w, act(api.ActResume, 0)); e != x.want || !script.Same(got, x.w) {
			t.Errorf("%s: %v", name, e)
		}
	}
	back := do(t, drifted, drift(0, api.SetMost, 3), act(api.ActResume, 0))
	if back.Run.Stopped {
		t.Error("it is in step again")
	}
}

// others returns acts with fields that their kinds do not have.
func others() []api.Act {
	l := []api.Act{{}, act(8, 1), act(-1, 1), act(api.ActResume, 1), {Kind: api.ActObserve, Number: 1, Finding: see("a", 1, 1).Finding}}
	for _, kind := range []int{api.ActDay, api.ActTry, api.ActUndo, api.ActCrash, api.ActResume, api.ActObserve} {
		a := api.Act{Kind: kind, Change: api.Change{At: 1}}
		if kind == api.ActObserve {
			a.Finding = see("a", 1, 1).Finding
		}
		l = append(l, a, api.Act{Kind: kind, Finding: a.Finding, Change: api.Change{Identity: api.Identity{KeyId: 1}}})
		if kind != api.ActObserve {
			l = append(l, api.Act{Kind: kind, Finding: api.Finding{Text: "x"}})
		}
	}
	return append(l, api.Act{Kind: api.ActDrift, Change: drift(0, api.SetMost, 4).Change, Finding: api.Finding{Day: 1}})
}

func TestNoAct(t *testing.T) { // P44.2 and P44.3
	w := do(t, begun(t), try(0))
	for _, a := range others() {
		if got, e := script.Do(w, a); e != api.ErrAct || !script.Same(got, w) {
			t.Errorf("%v: %v", a, e)
		}
		if s, e := script.Print([]api.Act{act(api.ActDay, 1), a}); e != api.ErrAct || s != "" {
			t.Errorf("%v: %q, %v", a, s, e)
		}
	}
}

func TestRun(t *testing.T) { // P44.3
	l := []api.Act{try(0), try(9), act(api.ActDay, 2), {}, try(0), act(api.ActDay, 1)}
	w, errors := script.Run(begun(t), l)
	if want := do(t, begun(t), l[0], l[2], l[4]); !script.Same(w, want) || !slices.Equal(errors, []api.Errno{api.OK, api.ErrRange, api.OK, api.ErrAct, api.OK, api.ErrRange}) {
		t.Errorf("%v, %v", w.Run, errors)
	}
	if w, errors := script.Run(begun(t), nil); !script.Same(w, begun(t)) || len(errors) > 0 {
		t.Errorf("%v", errors)
	}
}

func TestPrint(t *testing.T) { // P44.3
	peer := see("web", 12, 1)
	peer.Finding.Kind, peer.Finding.Number, peer.Finding.Text, peer.Finding.Machine = api.FindPeer, 0, "db", 77
	use := see("web", 12, 1)
	use.Finding.Kind, use.Finding.Number, use.Finding.Use = api.FindUse, 0, sample.RSA()
	l := []api.Act{act(api.ActDay, 12), try(2), act(api.ActUndo, 3), {Kind: api.ActDrift, Number: 2, Change: api.Change{Endpoint: 1, Kind: api.AddSuite, Number: 10, At: 4}}, see("app", 12, 3), peer, use, act(api.ActCrash, -24), act(api.ActResume, 0)}
	want := "1 12\n2 2\n3 3\n4 2 1 1 10 4\n5 0 12 0 9 6 4 3 0 0 app tls \n5 0 12 77 9 6 7 0 0 0 web tls db\n5 0 12 0 9 6 1 0 5 2048 web tls \n6 -24\n7 0\n"
	if s, e := script.Print(l); s != want || e != api.OK {
		t.Errorf("%q, %v", s, e)
	}
	if got, n, e := script.Parse(want); e != api.OK || n != 0 || !reflect.DeepEqual(got, l) {
		t.Errorf("%v, %d, %v", got, n, e)
	}
	if s, e := script.Print(nil); s != "" || e != api.OK {
		t.Errorf("%q, %v", s, e)
	}
	if s, e := script.Print(slices.Repeat([]api.Act{act(api.ActResume, 0)}, 200)); len(s) != 800 || e != api.OK {
		t.Errorf("%d, %v", len(s), e)
	}
	many := slices.Repeat([]api.Act{{}}, 201)
	if s, e := script.Print(many); s != "" || e != api.ErrLimit {
		t.Errorf("%v", e)
	}
	for _, a := range []api.Act{{Kind: api.ActObserve}, {Kind: api.ActDrift, Change: api.Change{Kind: api.AddIdentity, Identity: api.Identity{KeyId: 1}}}, {Kind: api.ActDrift, Change: api.Change{Kind: api.AddIdentity, Identity: third()}}} {
		if s, e := script.Print([]api.Act{a}); s != "" || e != api.ErrAct {
			t.Errorf("%v: %q, %v", a, s, e)
		}
	}
	if _, e := script.Print([]api.Act{{Kind: api.ActDrift}}); e != api.OK {
		t.Error(e)
	}
}

func third() api.Identity { return sample.Identity("db", sample.RSA(), 3, 7) }

func TestParse(t *testing.T) { // P44.3
	for s, want := range map[string]int{
		"x\n": 1, "\n": 1, "1 12": 1, "1 12\n2": 2, "1 12\n\n": 2, "1  12\n": 1, " 1 12\n": 1, "1 12 \n": 1, "1 012\n": 1, "1 +12\n": 1, "1 -0\n": 1, "1\n": 1, "0 0\n": 1, "8 0\n": 1, "7 1\n": 1, "1 12 0\n": 1,
		"1 12\r\n": 1, "4 2 1 1 10\n": 1, "4 2 1 1 10 4 0\n": 1, "1 1\n4 2 1 1 10 x\n": 2, "5 0 12 0 9 6 4 3 0 0 app tls\n": 1, "5 1 12 0 9 6 4 3 0 0 app tls \n": 1, "5 0 12 0 9 6 4 9 0 0 app tls \n": 1, "5 0 12 0 9 6 4 3 0 0 app tls  \n": 1,
		"5 0 12 0 9 6 4 3 0 0 app  \n": 1, "1 99999999999999999999\n": 1, "1 12\n1 x\n1 y\n": 2,
	} {
		if l, n, e := script.Parse(s); e != api.ErrLine || n != want || len(l) > 0 {
			t.Errorf("%q: %v, %d, %v", s, l, n, e)
		}
	}
	lines := func(n int) string { return string(slices.Repeat([]byte("7 0\n"), n)) }
	for s, want := range map[string]api.Errno{lines(200): api.OK, lines(201): api.ErrLimit, lines(200) + "x": api.ErrLimit, string(make([]byte, 8193)): api.ErrLimit, string(make([]byte, 8192)): api.ErrLine, "": api.OK} {
		if l, n, e := script.Parse(s); e != want || e != api.OK && len(l) > 0 || n != 0 && e != api.ErrLine {
			t.Errorf("%d bytes: %d, %v", len(s), n, e)
		}
	}
}

func TestSame(t *testing.T) { // P44.3
	rich := do(t, begun(t), try(0), see("app", 1, 3))
	rich.Exceptions = []api.Exception{{Endpoint: "x", Seals: []api.Seal{{Key: 1}}}}
	rich.Policy.Keeps = []api.Keep{{Purpose: 1}}
	for name, f := range map[string]func(*api.World){
		"estate":    func(w *api.World) { w.Estate.Items[0].Until++ },
		"hosts":     func(w *api.World) { w.Hosts[0].Before = nil },
		"rules":     func(w *api.World) { w.Policy.Rules[0].Alg++ },
		"keeps":     func(w *api.World) { w.Policy.Keeps = nil },
		"use":       func(w *api.World) { w.Exceptions[0].Use.Alg++ },
		"purpose":   func(w *api.World) { w.Exceptions[0].Purpose++ },
		"endpoint":  func(w *api.World) { w.Exceptions[0].Endpoint = "y" },
		"days":      func(w *api.World) { w.Exceptions[0].Days.To++ },
		"seals":     func(w *api.World) { w.Exceptions[0].Seals[0].Sum++ },
		"exception": func(w *api.World) { w.Exceptions = nil },
		"owners":    func(w *api.World) { w.Owners.Keys[0]++ },
		"need":      func(w *api.World) { w.Owners.Need++ },
		"findings":  func(w *api.World) { w.Findings = nil },
		"run":       func(w *api.World) { w.Run.Day++ },
		"ledger":    func(w *api.World) { w.Ledger.Decisions = nil },
		"journal":   func(w *api.World) { w.Journal = "" },
	} {
		w := clone.World(rich)
		f(&w)
		if script.Same(w, rich) || !script.Same(w, w) {
			t.Error(name)
		}
	}
	if !script.Same(api.World{}, api.World{Findings: []api.Finding{}}) {
		t.Error("empty")
	}
}

// random returns an act that is often possible.
func random(x *rand.Rand, w api.World) api.Act {
	switch x.Intn(9) {
	case 0:
		return act(api.ActDay, w.Run.Day+x.Intn(2))
	case 1:
		return act(api.ActUndo, x.Intn(5))
	case 2:
		return see([]string{"app", "db", "web"}[x.Intn(3)], w.Run.Day, 3+x.Intn(4)/3)
	case 3:
		return act(api.ActCrash, x.Intn(len(w.Journal)+20))
	case 4:
		return act(api.ActResume, 0)
	}
	return try(x.Intn(4))
}

func TestConsequences(t *testing.T) { // the same acts lead to the same world; without drift a run that is not stopped is in step; the ledger has what the journal has
	x := rand.New(rand.NewSource(1))
	finished := 0
	for range 60 {
		w := begun(t)
		var l []api.Act
		for range 40 {
			a := random(x, w)
			l = append(l, a)
			next, e := script.Do(w, a)
			if e != api.OK && !script.Same(next, w) {
				t.Fatalf("%v: %v", a, e)
			}
			w = next
			model, f := script.Model(w)
			if f != api.OK || !w.Run.Stopped && !estate.Same(script.Actual(w), model) || runner.Check(w.Run) != api.OK {
				t.Fatalf("%v: %v", l, f)
			}
			if replayed, _ := journal.Replay(w.Journal); !ledger.Same(replayed, w.Ledger) || ledger.Check(w.Ledger) != api.OK {
				t.Fatalf("%v: %v", l, w.Ledger)
			}
		}
		again, _ := script.Run(begun(t), l)
		s, e := script.Print(l)
		parsed, _, f := script.Parse(s)
		if !script.Same(w, again) || e != api.OK || f != api.OK || !reflect.DeepEqual(parsed, l) {
			t.Fatalf("%v", l)
		}
		if runner.Finished(w.Run) {
			finished++
		}
	}
	if finished < 3 {
		t.Error(finished)
	}
}

func TestNowhere(t *testing.T) { // R1: worlds that are none
	odd := begun(t)
	odd.Hosts = nil
	short := begun(t)
	short.Run.Steps = short.Run.Steps[:1]
	far := begun(t)
	far.Run.Plan.Changes[0].Endpoint = 99
	lost := begun(t)
	lost.Estate.Endpoints = nil
	for _, w := range []api.World{{}, odd, short, far, lost, {Run: api.Run{Steps: []int{1, 1}}}} {
		script.Model(w)
		script.Actual(w)
		for _, a := range []api.Act{act(api.ActDay, 9), try(0), act(api.ActUndo, 0), drift(0, api.SetMost, 4), see("app", 1, 4), act(api.ActCrash, 0), act(api.ActResume, 0)} {
			next, _ := script.Do(w, a)
			script.Do(next, a)
		}
	}
}

func TestMemory(t *testing.T) { // R3
	w := do(t, begun(t), try(0), see("app", 1, 3))
	e, q := sample.Estate(), sample.Plan()
	apart(t, "New", func() api.World { x, _ := script.New(e, w.Policy, w.Exceptions, w.Owners, q, 1); return x }, e, q, w)
	apart(t, "Model", func() api.Estate { x, _ := script.Model(w); return x }, w)
	apart(t, "Actual", func() api.Estate { return script.Actual(w) }, w)
	id := api.Act{Kind: api.ActDrift, Number: 1, Change: api.Change{Kind: api.AddIdentity, Identity: third()}}
	for _, a := range []api.Act{act(api.ActDay, 9), try(0), try(9), act(api.ActUndo, 0), id, see("app", 1, 4), act(api.ActCrash, 5), act(api.ActResume, 0)} {
		apart(t, "Do", func() api.World { x, _ := script.Do(w, a); return x }, w, a)
	}
	apart(t, "Do nothing", func() api.World { x, _ := script.Do(w, api.Act{}); return x }, w)
	apart(t, "Run", func() api.World { x, _ := script.Run(w, []api.Act{id, try(0)}); return x }, w, id)
	apart(t, "Run nothing", func() api.World { x, _ := script.Run(w, nil); return x }, w)
	if _, e := finding.Norm(w.Findings); e != api.OK {
		t.Error(e)
	}
}
