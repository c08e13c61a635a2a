package ledger_test

import (
	"cipherplan/api"
	"cipherplan/ledger"
	"math"
	"math/rand"
	"slices"
	"testing"
)

func d(day, known, kind, subject, value int) api.Decision {
	return api.Decision{Day: day, Known: known, Kind: kind, Subject: subject, Value: value}
}

func book(l ...api.Decision) api.Ledger { return api.Ledger{Decisions: l} }

// sample returns a valid ledger.
func sample() api.Ledger {
	return book(d(1, 0, 3, 5, 1), d(1, 2, 2, 5, 1), d(3, 2, 3, 5, 1), d(3, 4, 3, 6, 0), d(4, 4, 3, 5, 0), d(9, 9, 3, 5, 0), d(9, 9, 3, 5, 1))
}

// wrong returns decisions that are not valid.
func wrong() []api.Decision {
	return []api.Decision{d(-1, 0, 1, 0, 0), d(api.MaxDay+1, 0, 1, 0, 0), d(0, -1, 1, 0, 0), d(0, 401, 1, 0, 0), d(0, 0, 0, 0, 0), d(0, 0, 6, 0, 0), d(0, 0, 1, -1, 0), d(0, 0, 1, 41, 0), d(0, 0, 1, 0, -1), d(0, 0, 1, 0, 2)}
}

func TestCheck(t *testing.T) { // P41.1
	full := book(slices.Repeat([]api.Decision{d(0, 0, 1, 0, 0)}, 129)...)
	for name, x := range map[string]struct {
		l    api.Ledger
		want api.Errno
	}{
		"none":           {book(), api.OK},
		"sample":         {sample(), api.OK},
		"extremes":       {book(d(0, 0, 1, 0, 0), d(api.MaxDay, 400, 5, 40, 1)), api.OK},
		"128":            {book(full.Decisions[:128]...), api.OK},
		"129":            {book(append(full.Decisions[:128:128], wrong()[0])...), api.ErrLimit},
		"days fall":      {book(d(5, 0, 1, 0, 0), d(4, 0, 1, 0, 0)), api.ErrOrder},
		"known falls":    {book(d(5, 3, 1, 0, 0), d(6, 2, 1, 0, 0)), api.ErrOrder},
		"order first":    {book(d(5, 0, 1, 0, 0), d(4, 0, 1, 0, 0), d(0, 0, 0, 0, 0)), api.ErrOrder},
		"decision first": {book(d(5, 0, 1, 0, 0), d(6, 0, 0, 0, 0), d(4, 0, 1, 0, 0)), api.ErrDecision},
		"decision there": {book(d(5, 0, 1, 0, 0), d(4, 0, 0, 0, 0)), api.ErrDecision},
	} {
		if e := ledger.Check(x.l); e != x.want {
			t.Errorf("%s: %v", name, e)
		}
		if l, e := ledger.Add(x.l, d(-1, 0, 0, 0, 0)); x.want != api.OK && (e != x.want || !ledger.Same(l, x.l)) {
			t.Errorf("%s: %v", name, e)
		}
	}
	for _, x := range wrong() {
		if e := ledger.Check(book(x)); e != api.ErrDecision {
			t.Errorf("%v: %v", x, e)
		}
		if l, e := ledger.Add(book(), x); e != api.ErrDecision || len(l.Decisions) > 0 {
			t.Errorf("%v: %v", x, e)
		}
	}
}

func TestAdd(t *testing.T) { // P41.1
	l := sample()
	more, e := ledger.Add(l, d(9, 9, 1, 0, 0))
	if e != api.OK || !ledger.Same(more, book(append(slices.Clone(l.Decisions), d(9, 9, 1, 0, 0))...)) {
		t.Errorf("%v, %v", more, e)
	}
	for _, x := range []struct {
		d    api.Decision
		want api.Errno
	}{{d(8, 9, 1, 0, 0), api.ErrOrder}, {d(9, 8, 1, 0, 0), api.ErrOrder}, {d(8, 9, 0, 0, 0), api.ErrDecision}} {
		if more, e := ledger.Add(l, x.d); e != x.want || !ledger.Same(more, l) {
			t.Errorf("%v: %v, %v", x.d, more, e)
		}
	}
	full := book(slices.Repeat([]api.Decision{d(0, 0, 1, 0, 0)}, 128)...)
	if more, e := ledger.Add(full, d(-1, 0, 0, 0, 0)); e != api.ErrLimit || !ledger.Same(more, full) {
		t.Error(e)
	}
	full.Decisions = full.Decisions[:127]
	if more, e := ledger.Add(full, d(0, 0, 1, 0, 1)); e != api.OK || len(more.Decisions) != 128 {
		t.Error(e)
	}
}

func TestLatest(t *testing.T) { // P41.2
	for _, x := range []struct {
		kind, subject, day int
		want               int
	}{{3, 5, 0, -1}, {3, 5, 1, 0}, {3, 5, 2, 0}, {3, 5, 3, 2}, {3, 5, 4, 4}, {3, 5, 8, 4}, {3, 5, 9, 6}, {3, 5, math.MaxInt, 6}, {3, 5, math.MinInt, -1}, {2, 5, 9, 1}, {3, 6, 2, -1}, {3, 7, 9, -1}, {9, 5, 9, -1}} {
		got, ok := ledger.Latest(sample(), x.kind, x.subject, x.day)
		want := api.Decision{}
		if x.want >= 0 {
			want = sample().Decisions[x.want]
		}
		if got != want || ok != (x.want >= 0) {
			t.Errorf("%v: %v, %v", x, got, ok)
		}
	}
}

func TestThen(t *testing.T) { // P41.2
	for day, want := range map[int][2]int{-1: {0, 0}, 0: {0, 0}, 1: {2, 2}, 2: {2, 2}, 3: {4, 4}, 4: {5, 4}, 8: {5, 4}, 9: {7, 9}, math.MaxInt: {7, 9}} {
		if l := ledger.Then(sample(), day); !ledger.Same(l, book(sample().Decisions[:want[0]]...)) || ledger.Known(sample(), day) != want[1] {
			t.Errorf("%d: %v, %d", day, l, ledger.Known(sample(), day))
		}
	}
}

func TestChanged(t *testing.T) { // P41.2
	for _, x := range []struct {
		kind, subject int
		want          []int
	}{{3, 5, []int{0, 4, 6}}, {3, 6, []int{3}}, {2, 5, []int{1}}, {1, 5, nil}} {
		if l := ledger.Changed(sample(), x.kind, x.subject); !slices.Equal(l, x.want) {
			t.Errorf("%v: %v", x, l)
		}
	}
	made := book(d(1, 0, api.DecideChange, 0, 1), d(2, 0, api.DecideChange, 0, 0))
	if l := ledger.Changed(made, api.DecideChange, 0); !slices.Equal(l, []int{0, 1}) {
		t.Error(l)
	}
}

func TestDiffer(t *testing.T) { // P41.2
	a := sample()
	for i, f := range []func(*api.Decision){func(x *api.Decision) { x.Day++ }, func(x *api.Decision) { x.Known++ }, func(x *api.Decision) { x.Kind++ }, func(x *api.Decision) { x.Subject++ }, func(x *api.Decision) { x.Value++ }} {
		b := sample()
		f(&b.Decisions[i])
		b.Decisions[6].Day = 99
		if n, ok := ledger.Differ(a, b); n != i || !ok || ledger.Same(a, b) {
			t.Errorf("%d: %d, %v", i, n, ok)
		}
	}
	for n := range 7 {
		b := book(a.Decisions[:n]...)
		if i, ok := ledger.Differ(a, b); i != n || !ok || ledger.Same(a, b) {
			t.Errorf("%d: %d, %v", n, i, ok)
		}
		if i, ok := ledger.Differ(b, a); i != n || !ok || ledger.Same(b, a) {
			t.Errorf("%d: %d, %v", n, i, ok)
		}
	}
	if i, ok := ledger.Differ(a, sample()); i != 0 || ok || !ledger.Same(a, sample()) {
		t.Errorf("%d, %v", i, ok)
	}
	if i, ok := ledger.Differ(book(), book([]api.Decision{}...)); i != 0 || ok {
		t.Errorf("%d, %v", i, ok)
	}
}

func TestConsequences(t *testing.T) { // what was said never changes by later decisions; Latest is Latest of Then; values of Changed alternate
	r := rand.New(rand.NewSource(1))
	for range 200 {
		var l api.Ledger
		for range 20 {
			next := d(r.Intn(20), r.Intn(20), 1+r.Intn(2), r.Intn(2), r.Intn(2))
			more, e := ledger.Add(l, next)
			for day := range 20 {
				if e == api.OK && day < next.Day && !ledger.Same(ledger.Then(l, day), ledger.Then(more, day)) {
					t.Fatalf("%v, %v", l, more)
				}
				a, ok1 := ledger.Latest(more, 1, 1, day)
				b, ok2 := ledger.Latest(ledger.Then(more, day), 1, 1, day+r.Intn(9))
				if a != b || ok1 != ok2 {
					t.Fatalf("%v, %v", a, b)
				}
			}
			l = more
		}
		changed := ledger.Changed(l, 1, 1)
		for i := 1; i < len(changed); i++ {
			if l.Decisions[changed[i]].Value == l.Decisions[changed[i-1]].Value {
				t.Fatalf("%v: %v", l, changed)
			}
		}
	}
}

func TestMemory(t *testing.T) { // R3
	l := sample()
	l.Decisions = append(make([]api.Decision, 0, 20), l.Decisions...)
	apart(t, "Add", func() api.Ledger { x, _ := ledger.Add(l, d(9, 9, 1, 0, 0)); return x }, l)
	apart(t, "Add nothing", func() api.Ledger { x, _ := ledger.Add(l, d(0, 0, 1, 0, 0)); return x }, l)
	apart(t, "Then", func() api.Ledger { return ledger.Then(l, 3) }, l)
	apart(t, "Changed", func() []int { return ledger.Changed(l, 3, 5) }, l)
}
