package runner_test

import (
	"cipherplan/api"
	"cipherplan/order"
	"cipherplan/runner"
	"cipherplan/sample"
	"math"
	"math/rand"
	"reflect"
	"slices"
	"testing"
)

func set(endpoint, kind, number int) api.Change {
	return api.Change{Endpoint: endpoint, Kind: kind, Number: number}
}

func r(first, then int) api.Required { return api.Required{First: first, Then: then} }

// changes returns a plan of four changes.
func changes() api.Plan {
	return api.Plan{
		Changes:  []api.Change{set(0, api.DropSuite, 2), set(1, api.DropSuite, 2), set(2, api.DropSuite, 2), set(0, api.SetMost, 4)},
		Required: []api.Required{r(0, 1), r(2, 3)},
		Days:     []int{5, 7, 3, 5},
	}
}

// run returns a run of it on day 5.
func run(f func(*api.Run)) api.Run {
	x := api.Run{Plan: changes(), Day: 5, Steps: make([]int, 4), Tries: make([]int, 4)}
	f(&x)
	return x
}

func nothing(*api.Run) {}

func one() api.Endpoint   { return sample.Endpoint("a", 1, 1) }
func two() api.Endpoint   { return sample.Endpoint("a", 1, 2) }
func three() api.Endpoint { return sample.Endpoint("a", 1, 3) }

func TestNew(t *testing.T) { // P37.1
	if x, e := runner.New(changes(), 5); e != api.OK || !runner.Same(x, run(nothing)) || runner.Check(x) != api.OK {
		t.Errorf("%v, %v", x, e)
	}
	if x, e := runner.New(api.Plan{}, api.MaxDay); e != api.OK || !runner.Same(x, api.Run{Day: api.MaxDay}) {
		t.Errorf("%v, %v", x, e)
	}
	for _, day := range []int{-1, api.MaxDay + 1} {
		if x, e := runner.New(api.Plan{Days: []int{1}}, day); e != api.ErrRange || !reflect.DeepEqual(x, api.Run{}) {
			t.Errorf("%d: %v", day, e)
		}
	}
}

func TestCheck(t *testing.T) { // P37.1
	for name, x := range map[string]struct {
		f    func(*api.Run)
		want api.Errno
	}{
		"new":  {nothing, api.OK},
		"done": {func(x *api.Run) { x.Steps = []int{1, 3, 2, 0}; x.Tries = []int{4, 0, 1, 2}; x.Stopped = true }, api.OK},
		"24": {func(x *api.Run) {
			*x = api.Run{Plan: api.Plan{Changes: make([]api.Change, 24), Days: make([]int, 24)}, Steps: make([]int, 24), Tries: make([]int, 24)}
		}, api.OK},
		"zero": {func(x *api.Run) { *x = api.Run{} }, api.OK},
		"25": {func(x *api.Run) {
			*x = api.Run{Plan: api.Plan{Changes: make([]api.Change, 25), Days: make([]int, 25)}, Steps: make([]int, 25), Tries: make([]int, 25)}
		}, api.ErrPlan},
		"days":        {func(x *api.Run) { x.Plan.Days = x.Plan.Days[:3] }, api.ErrPlan},
		"day -1":      {func(x *api.Run) { x.Plan.Days[3] = -1 }, api.ErrPlan},
		"day 40001":   {func(x *api.Run) { x.Plan.Days[3] = 40001 }, api.ErrPlan},
		"needs":       {func(x *api.Run) { x.Plan.Required[0].Then = 4 }, api.ErrPlan},
		"needs order": {func(x *api.Run) { slices.Reverse(x.Plan.Required) }, api.ErrPlan},
		"now -1":      {func(x *api.Run) { x.Day = -1 }, api.ErrPlan},
		"now 40001":   {func(x *api.Run) { x.Day = 40001 }, api.ErrPlan},
		"steps":       {func(x *api.Run) { x.Steps = x.Steps[:3] }, api.ErrPlan},
		"tries":       {func(x *api.Run) { x.Tries = append(x.Tries, 0) }, api.ErrPlan},
		"step 4":      {func(x *api.Run) { x.Steps[0] = 4 }, api.ErrPlan},
		"step -1":     {func(x *api.Run) { x.Steps[0] = -1 }, api.ErrPlan},
		"5 tries":     {func(x *api.Run) { x.Tries[0] = 5 }, api.ErrPlan},
		"-1 tries":    {func(x *api.Run) { x.Tries[0] = -1 }, api.ErrPlan},
		"not closed":  {func(x *api.Run) { x.Steps[1] = api.StepDone }, api.ErrPlan},
	} {
		y := run(x.f)
		if e := runner.Check(y); e != x.want {
			t.Errorf("%s: %v", name, e)
		}
		if _, e := runner.New(y.Plan, 1); e == api.OK && x.want != api.OK && !reflect.DeepEqual(y.Plan, changes()) {
			t.Errorf("%s: %v", name, e)
		}
		runner.Next(y)
		runner.Report(y, 0, one(), two(), three())
		runner.Undo(y, 0)
	}
	if _, e := runner.New(api.Plan{Changes: make([]api.Change, 1)}, 1); e != api.ErrPlan {
		t.Error(e)
	}
}

func TestNext(t *testing.T) { // P37.2
	for name, x := range map[string]struct {
		f    func(*api.Run)
		want int
	}{
		"the earliest day":  {nothing, 2},
		"then the least":    {func(x *api.Run) { x.Steps[2] = api.StepDone }, 0},
		"then the other":    {func(x *api.Run) { x.Steps = []int{1, 0, 1, 0} }, 3},
		"not yet":           {func(x *api.Run) { x.Steps = []int{1, 0, 1, 1} }, -1},
		"on its day":        {func(x *api.Run) { x.Steps = []int{1, 0, 1, 1}; x.Day = 7 }, 1},
		"too early for all": {func(x *api.Run) { x.Day = 2 }, -1},
		"failed":            {func(x *api.Run) { x.Steps[2], x.Tries[2] = api.StepFailed, 3 }, 2},
		"failed for good":   {func(x *api.Run) { x.Steps[2], x.Tries[2] = api.StepFailed, 4 }, 0},
		"undone":            {func(x *api.Run) { x.Steps[2] = api.StepUndone }, 2},
		"stopped":           {func(x *api.Run) { x.Stopped = true }, -1},
		"finished":          {func(x *api.Run) { x.Steps = []int{1, 1, 1, 1}; x.Day = 99 }, -1},
	} {
		if i, ok := runner.Next(run(x.f)); i != max(x.want, 0) || ok != (x.want >= 0) {
			t.Errorf("%s: %d, %v", name, i, ok)
		}
	}
	if s := runner.Done(run(func(x *api.Run) { x.Steps = []int{1, 2, 1, 3} })); !slices.Equal(s, api.Set{0, 2}) {
		t.Error(s)
	}
}

func TestReport(t *testing.T) { // P37.2
	for name, x := range map[string]struct {
		before, after, seen api.Endpoint
		step                int
		stopped             bool
	}{
		"done":             {one(), two(), two(), api.StepDone, false},
		"failed":           {one(), two(), one(), api.StepFailed, false},
		"something else":   {one(), two(), three(), api.StepUndone, true},
		"nothing to do":    {one(), one(), one(), api.StepDone, false},
		"not even a thing": {one(), two(), api.Endpoint{}, api.StepUndone, true},
	} {
		y := run(func(r *api.Run) { r.Steps[2], r.Tries[2] = api.StepUndone, 3 })
		got, e := runner.Report(y, 2, x.before, x.after, x.seen)
		want := run(func(r *api.Run) { r.Steps[2], r.Tries[2], r.Stopped = x.step, 4, x.stopped })
		if e != api.OK || !runner.Same(got, want) {
			t.Errorf("%s: %v, %v", name, got, e)
		}
	}
	for name, x := range map[string]struct {
		f    func(*api.Run)
		step int
		want api.Errno
	}{
		"stopped":      {func(x *api.Run) { x.Stopped = true }, 9, api.ErrStop},
		"no step":      {nothing, 4, api.ErrNeed},
		"step -1":      {nothing, -1, api.ErrNeed},
		"not yet":      {func(x *api.Run) { x.Steps[0] = 1 }, 1, api.ErrNeed},
		"not possible": {func(x *api.Run) { x.Day = 99 }, 1, api.ErrNeed},
		"done":         {func(x *api.Run) { x.Steps[2] = 1 }, 2, api.ErrNeed},
		"four tries":   {func(x *api.Run) { x.Tries[2] = 4 }, 2, api.ErrNeed},
	} {
		if got, e := runner.Report(run(x.f), x.step, one(), two(), two()); e != x.want || !runner.Same(got, run(x.f)) {
			t.Errorf("%s: %v, %v", name, got, e)
		}
	}
}

func TestUndo(t *testing.T) { // P37.3
	done := func(x *api.Run) { x.Steps = []int{1, 1, 1, 2}; x.Tries = []int{1, 2, 3, 4} }
	for step, want := range map[int]api.Errno{0: api.ErrNeed, 1: api.OK, 2: api.OK, 3: api.ErrNeed, 4: api.ErrNeed, -1: api.ErrNeed, math.MinInt: api.ErrNeed} {
		got, e := runner.Undo(run(done), step)
		y := run(done)
		if want == api.OK {
			y.Steps[step], y.Tries[step] = api.StepUndone, 0
		}
		if e != want || !runner.Same(got, y) {
			t.Errorf("%d: %v, %v", step, got, e)
		}
	}
	stopped := run(func(x *api.Run) { done(x); x.Stopped = true })
	if got, e := runner.Undo(stopped, 9); e != api.ErrStop || !runner.Same(got, stopped) {
		t.Errorf("%v, %v", got, e)
	}
}

func TestAdvance(t *testing.T) { // P37.3
	for day, want := range map[int]api.Errno{5: api.OK, 6: api.OK, api.MaxDay: api.OK, 4: api.ErrRange, -1: api.ErrRange, api.MaxDay + 1: api.ErrRange} {
		got, e := runner.Advance(run(nothing), day)
		y := run(nothing)
		if want == api.OK {
			y.Day = day
		}
		if e != want || !runner.Same(got, y) {
			t.Errorf("%d: %v, %v", day, got, e)
		}
	}
	if got := runner.Stop(run(nothing), true); !runner.Same(got, run(func(x *api.Run) { x.Stopped = true })) || !runner.Same(runner.Stop(got, false), run(nothing)) || !runner.Same(runner.Stop(got, true), got) {
		t.Errorf("%v", got)
	}
	if runner.Finished(run(nothing)) || runner.Finished(run(func(x *api.Run) { x.Steps = []int{1, 1, 1, 3} })) || !runner.Finished(run(func(x *api.Run) { x.Steps = []int{1, 1, 1, 1} })) || !runner.Finished(api.Run{}) {
		t.Error("finished")
	}
}

func TestSame(t *testing.T) { // P37.3
	for name, f := range map[string]func(*api.Run){
		"plan":    func(x *api.Run) { x.Plan.Days[0]++ },
		"day":     func(x *api.Run) { x.Day++ },
		"steps":   func(x *api.Run) { x.Steps[0]++ },
		"tries":   func(x *api.Run) { x.Tries[0]++ },
		"stopped": func(x *api.Run) { x.Stopped = true },
	} {
		if runner.Same(run(f), run(nothing)) || !runner.Same(run(f), run(f)) {
			t.Error(name)
		}
	}
}

func TestClosed(t *testing.T) { // consequence: Done stays closed, and the run stays valid
	x := rand.New(rand.NewSource(1))
	finished := 0
	for range 200 {
		y, _ := runner.New(changes(), 0)
		for range 40 {
			switch x.Intn(5) {
			case 0:
				y, _ = runner.Undo(y, x.Intn(4))
			case 1:
				y, _ = runner.Advance(y, y.Day+x.Intn(3))
			default:
				if i, ok := runner.Next(y); ok {
					y, _ = runner.Report(y, i, one(), two(), []api.Endpoint{one(), two(), two()}[x.Intn(3)])
				}
			}
			closed, e := order.Closed(4, y.Plan.Required, runner.Done(y))
			if !closed || e != api.OK || runner.Check(y) != api.OK {
				t.Fatalf("%v", y)
			}
		}
		if runner.Finished(y) {
			finished++
		}
	}
	if finished < 10 {
		t.Error(finished)
	}
}

func TestMemory(t *testing.T) { // R3
	p, y := changes(), run(nothing)
	apart(t, "New", func() api.Run { x, _ := runner.New(p, 1); return x }, p)
	apart(t, "Report", func() api.Run { x, _ := runner.Report(y, 2, one(), two(), two()); return x }, y)
	apart(t, "Report with an error", func() api.Run { x, _ := runner.Report(y, 9, one(), two(), two()); return x }, y)
	apart(t, "Undo", func() api.Run { x, _ := runner.Undo(y, 2); return x }, y)
	apart(t, "Advance", func() api.Run { x, _ := runner.Advance(y, 9); return x }, y)
	apart(t, "Stop", func() api.Run { return runner.Stop(y, true) }, y)
	apart(t, "Done", func() api.Set { return runner.Done(y) }, y)
}
