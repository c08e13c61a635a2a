package audit

import (
	"cipherplan/api"
	"cipherplan/journal"
	"cipherplan/ledger"
	"cipherplan/runner"
	"cipherplan/script"
)

// inspector asks whether rules hold in a world.
type inspector struct{ world api.World }

// rules returns the rules, in the order of their numbers.
func (i inspector) rules() []func() bool {
	return []func() bool{i.isValid, i.isInStep, i.isWritten, i.isDecided}
}

// isValid reports whether the run is valid, and there is a model.
func (i inspector) isValid() bool {
	_, e := script.Model(i.world)
	return runner.Check(i.world.Run) == api.OK && e == api.OK
}

// isInStep reports whether the run is stopped, or the actual estate is the model.
func (i inspector) isInStep() bool {
	if i.world.Run.Stopped {
		return true
	}
	model, _ := script.Model(i.world)
	return isSame(i.world, model)
}

// isSame reports whether the actual estate of a world is its model.
func isSame(w api.World, model api.Estate) bool {
	return script.Same(api.World{Estate: script.Actual(w)}, api.World{Estate: model})
}

// isWritten reports whether the ledger is right, and what the journal says.
func (i inspector) isWritten() bool {
	replayed, _ := journal.Replay(i.world.Journal)
	return ledger.Check(i.world.Ledger) == api.OK && ledger.Same(replayed, i.world.Ledger) &&
		journal.Whole(i.world.Journal) == i.world.Journal
}

// isDecided reports whether just the steps that are done were decided last to be made.
func (i inspector) isDecided() bool {
	decided := func(step int) bool {
		d, ok := ledger.Latest(i.world.Ledger, api.DecideChange, step, api.MaxDay)
		return ok && d.Value == 1
	}
	for step, is := range i.world.Run.Steps {
		if decided(step) != (is == api.StepDone) {
			return false
		}
	}
	return true
}
