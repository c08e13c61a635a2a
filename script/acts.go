package script

import (
	"cipherplan/api"
	"cipherplan/change"
	"cipherplan/finding"
	"cipherplan/host"
	"cipherplan/journal"
	"cipherplan/ledger"
	"cipherplan/order"
	"cipherplan/policy"
	"cipherplan/runner"
	"cipherplan/watch"
	"slices"
)

// handler does an act in a world that is its own, and returns what becomes of it; with an error this is not used.
type handler func(w api.World, a api.Act) (api.World, api.Errno)

// handlers returns the functions that do acts, by kind.
func handlers() [api.Acts + 1]handler {
	return [api.Acts + 1]handler{
		api.ActDay:     doDay,
		api.ActTry:     doTry,
		api.ActUndo:    doUndo,
		api.ActDrift:   doDrift,
		api.ActObserve: doObserve,
		api.ActCrash:   doCrash,
		api.ActResume:  doResume,
	}
}

// isAct reports whether there is the kind of an act, and it has no fields that its kind does not have.
func isAct(a api.Act) bool {
	if a.Kind < 1 || a.Kind > api.Acts {
		return false
	}
	return (a.Kind != api.ActObserve && a.Kind != api.ActResume || a.Number == 0) &&
		(a.Kind == api.ActDrift || change.Same(a.Change, api.Change{})) &&
		(a.Kind == api.ActObserve || a.Finding == api.Finding{})
}

// decide adds a decision to ledger and journal.
func decide(w api.World, kind, subject, value int) (api.World, api.Errno) {
	d := api.Decision{Day: w.Run.Day, Known: len(w.Findings), Kind: kind, Subject: subject, Value: value}
	var e api.Errno
	if w.Ledger, e = ledger.Add(w.Ledger, d); e != api.OK {
		return w, e
	}
	w.Journal, e = journal.Append(w.Journal, d)
	return w, e
}

func doDay(w api.World, a api.Act) (api.World, api.Errno) {
	var e api.Errno
	w.Run, e = runner.Advance(w.Run, a.Number)
	return w, e
}

// move is a step of a world from its model to another state.
type move struct {
	at            int // the endpoint
	before, after api.Endpoint
}

// moveTo returns the move by which a step leads to a state, if nothing forbidden is enabled.
func moveTo(w api.World, step int, s api.Set) (move, api.Errno) {
	model, e := Model(w)
	if e != api.OK {
		return move{}, e
	}
	next, e := state(w, s)
	if e != api.OK {
		return move{}, e
	}
	edges, e := policy.Step(model, next, w.Policy, w.Exceptions, w.Owners, w.Run.Day)
	if e != api.OK {
		return move{}, e
	}
	if len(edges) > 0 {
		return move{}, api.ErrForbid
	}
	at := w.Run.Plan.Changes[step].Endpoint
	if at < 0 || at >= len(w.Hosts) || at >= len(model.Endpoints) {
		return move{}, api.ErrNone
	}
	return move{at: at, before: model.Endpoints[at], after: next.Endpoints[at]}, api.OK
}

func doTry(w api.World, a api.Act) (api.World, api.Errno) {
	if w.Run.Stopped {
		return w, api.ErrStop
	}
	step, ok := runner.Next(w.Run)
	if !ok {
		return w, api.ErrNone
	}
	if a.Number < 0 || a.Number > api.FaultKinds {
		return w, api.ErrRange
	}
	done := append(runner.Done(w.Run), step)
	slices.Sort(done)
	m, e := moveTo(w, step, done)
	if e != api.OK {
		return w, e
	}
	if w.Hosts[m.at], _, e = host.Try(w.Hosts[m.at], m.after, a.Number); e != api.OK {
		return w, e
	}
	if w.Run, e = runner.Report(w.Run, step, m.before, m.after, w.Hosts[m.at].Endpoint); e != api.OK {
		return w, e
	}
	if w.Run.Stopped {
		return decide(w, api.DecideStop, 0, 1)
	}
	if w.Run.Steps[step] == api.StepDone {
		return decide(w, api.DecideChange, step, 1)
	}
	return w, api.OK
}

func doUndo(w api.World, a api.Act) (api.World, api.Errno) {
	run, e := runner.Undo(w.Run, a.Number)
	if e != api.OK {
		return w, e
	}
	m, e := moveTo(w, a.Number, runner.Done(run))
	if e != api.OK {
		return w, e
	}
	if w.Hosts[m.at], _, e = host.Try(w.Hosts[m.at], m.after, api.FaultNone); e != api.OK {
		return w, e
	}
	w.Run = run
	return decide(w, api.DecideChange, a.Number, 0)
}

func doDrift(w api.World, a api.Act) (api.World, api.Errno) {
	if a.Number < 0 || a.Number >= len(w.Hosts) {
		return w, api.ErrNone
	}
	var e api.Errno
	w.Hosts[a.Number], e = host.Drift(w.Hosts[a.Number], a.Change)
	return w, e
}

func doObserve(w api.World, a api.Act) (api.World, api.Errno) {
	var e api.Errno
	if w.Findings, e = finding.Merge(w.Findings, []api.Finding{a.Finding}); e != api.OK {
		return w, e
	}
	model, e := Model(w)
	if e != api.OK {
		return w, e
	}
	wrong := slices.ContainsFunc(model.Endpoints, func(x api.Endpoint) bool { return watch.Contradicts(x, a.Finding) })
	if !wrong || a.Finding.Day != w.Run.Day || w.Run.Stopped {
		return w, api.OK
	}
	w.Run = runner.Stop(w.Run, true)
	return decide(w, api.DecideStop, 0, 1)
}

func doCrash(w api.World, a api.Act) (api.World, api.Errno) {
	w.Journal = journal.Whole(journal.Crash(w.Journal, a.Number, ""))
	w.Ledger, _ = journal.Replay(w.Journal)
	for i := range w.Run.Steps {
		w.Run.Steps[i] = api.StepWaiting
		if d, ok := ledger.Latest(w.Ledger, api.DecideChange, i, api.MaxDay); ok && d.Value == 1 {
			w.Run.Steps[i] = api.StepDone
		}
	}
	clear(w.Run.Tries)
	if closed, e := order.Closed(len(w.Run.Plan.Changes), w.Run.Plan.Required, runner.Done(w.Run)); e != api.OK || !closed {
		return w, api.ErrSet
	}
	w.Run = runner.Stop(w.Run, w.Run.Stopped || !isInStep(w))
	return w, api.OK
}

func doResume(w api.World, _ api.Act) (api.World, api.Errno) {
	if !w.Run.Stopped {
		return w, api.ErrStop
	}
	if _, e := Model(w); e != api.OK {
		return w, e
	}
	if !isInStep(w) {
		return w, api.ErrModel
	}
	w.Run = runner.Stop(w.Run, false)
	return w, api.OK
}
