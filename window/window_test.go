package window_test

import (
	"cipherplan/api"
	"cipherplan/window"
	"math"
	"math/rand"
	"reflect"
	"slices"
	"testing"
)

func win(from, to int, teams ...int) api.Window {
	return api.Window{Days: api.Span{From: from, To: to}, Teams: teams}
}

// calendar returns a valid calendar of three endpoints and two teams, with something changed.
func calendar(f func(*api.Calendar)) api.Calendar {
	c := api.Calendar{Windows: []api.Window{win(10, 12, 0), win(12, 15, 0, 1), win(20, 21, 1), win(30, 31)}, Team: []int{0, 1, 0}, Room: []int{1, 2}}
	f(&c)
	return c
}

func nothing(*api.Calendar) {}

// wrong returns what makes the calendar one that is not valid.
func wrong() map[string]struct {
	f    func(*api.Calendar)
	want api.Errno
} {
	many := func(n int) []api.Window {
		var l []api.Window
		for i := range n {
			l = append(l, win(i, i+1))
		}
		return l
	}
	return map[string]struct {
		f    func(*api.Calendar)
		want api.Errno
	}{
		"33 windows":    {func(c *api.Calendar) { c.Windows = many(33) }, api.ErrLimit},
		"nine teams":    {func(c *api.Calendar) { c.Room = make([]int, 9); c.Room[0] = -1 }, api.ErrLimit},
		"room":          {func(c *api.Calendar) { c.Room[1] = -1; c.Windows[0].Days.To = 0 }, api.ErrRange},
		"much room":     {func(c *api.Calendar) { c.Room[1] = 25 }, api.ErrRange},
		"from":          {func(c *api.Calendar) { c.Windows[0].Days.From = -1 }, api.ErrWindow},
		"no days":       {func(c *api.Calendar) { c.Windows[3].Days.To = 30; c.Windows[1].Days.From = 11 }, api.ErrWindow},
		"to":            {func(c *api.Calendar) { c.Windows[3].Days.To = api.MaxDay + 2 }, api.ErrWindow},
		"overlap":       {func(c *api.Calendar) { c.Windows[1].Days.From = 11; c.Windows[0].Teams[0] = 9 }, api.ErrOrder},
		"descend":       {func(c *api.Calendar) { slices.Reverse(c.Windows) }, api.ErrOrder},
		"teams twice":   {func(c *api.Calendar) { c.Windows[1].Teams = []int{1, 1} }, api.ErrOrder},
		"teams descend": {func(c *api.Calendar) { c.Windows[1].Teams = []int{1, 0} }, api.ErrOrder},
		"no team":       {func(c *api.Calendar) { c.Windows[2].Teams = []int{2}; c.Team = nil }, api.ErrRange},
		"team -1":       {func(c *api.Calendar) { c.Windows[2].Teams = []int{-1} }, api.ErrRange},
		"of no team":    {func(c *api.Calendar) { c.Team[2] = 2 }, api.ErrForm},
		"of team -1":    {func(c *api.Calendar) { c.Team[2] = -1 }, api.ErrForm},
	}
}

func TestCheck(t *testing.T) { // P30.1
	if e := window.Check(calendar(nothing), 3); e != api.OK {
		t.Error(e)
	}
	for _, n := range []int{2, 4, 0, -1, math.MaxInt} {
		if e := window.Check(calendar(nothing), n); e != api.ErrForm {
			t.Errorf("%d: %v", n, e)
		}
	}
	if e := window.Check(api.Calendar{}, 0); e != api.OK {
		t.Error(e)
	}
	var most api.Calendar
	for i := range 32 {
		most.Windows = append(most.Windows, win(i, i+1))
	}
	if e := window.Check(most, 0); e != api.OK {
		t.Error(e)
	}
	full := api.Calendar{Windows: []api.Window{win(0, api.MaxDay+1, 0, 1, 2, 3, 4, 5, 6, 7)}, Room: []int{24, 0, 1, 2, 3, 4, 5, 6}}
	if e := window.Check(full, 0); e != api.OK {
		t.Error(e)
	}
	for name, x := range wrong() {
		c := calendar(x.f)
		a, ok1, e1 := window.At(c, 10)
		ok2, e2 := window.May(c, 99, 10)
		n, ok3, e3 := window.Next(c, 99, 10)
		l, e4 := window.Load(c, []int{99}, nil)
		e5 := window.Fits(c, []int{99}, nil)
		d, ok6, e6 := window.Earliest(c, []int{99}, nil, 99, 0)
		for i, e := range []api.Errno{window.Check(c, 3), e1, e2, e3, e4, e5, e6} {
			if e != x.want {
				t.Errorf("%s: %d: %v", name, i, e)
			}
		}
		if a+n+d+len(l) != 0 || ok1 || ok2 || ok3 || ok6 {
			t.Errorf("%s: results with an error", name)
		}
	}
}

func TestDays(t *testing.T) { // P30.2
	c := calendar(nothing)
	for day, want := range map[int]int{-1: -1, 9: -1, 10: 0, 11: 0, 12: 1, 14: 1, 15: -1, 20: 2, 21: -1, 30: 3, math.MaxInt: -1, math.MinInt: -1} {
		i, ok, e := window.At(c, day)
		if i != max(want, 0) || ok != (want >= 0) || e != api.OK {
			t.Errorf("%d: %d, %v, %v", day, i, ok, e)
		}
	}
	for _, x := range []struct {
		team, day int
		may       bool
		next      int
	}{{0, -5, false, 10}, {0, 9, false, 10}, {0, 10, true, 10}, {0, 11, true, 11}, {0, 14, true, 14}, {0, 15, false, -1}, {0, 20, false, -1}, {1, 0, false, 12}, {1, 11, false, 12}, {1, 15, false, 20}, {1, 20, true, 20}, {1, 21, false, -1}, {1, math.MinInt, false, 12}, {1, math.MaxInt, false, -1}} {
		may, e := window.May(c, x.team, x.day)
		next, ok, f := window.Next(c, x.team, x.day)
		if may != x.may || next != max(x.next, 0) || ok != (x.next >= 0) || e != api.OK || f != api.OK {
			t.Errorf("%v: %v, %v; %d, %v, %v", x, may, e, next, ok, f)
		}
	}
	for _, team := range []int{-1, 2, math.MaxInt} {
		may, e := window.May(c, team, 10)
		next, ok, f := window.Next(c, team, 10)
		if may || e != api.ErrRange || next != 0 || ok || f != api.ErrRange {
			t.Errorf("%d: %v, %v", team, e, f)
		}
	}
	zero := calendar(func(c *api.Calendar) { c.Windows[0].Days.From = 0 })
	if next, ok, e := window.Next(zero, 0, -7); next != 0 || !ok || e != api.OK {
		t.Errorf("%d, %v, %v", next, ok, e)
	}
}

func TestLoad(t *testing.T) { // P30.3
	c := calendar(func(c *api.Calendar) { c.Room = []int{1, 2, 0} })
	l, e := window.Load(c, []int{0, 1, 0, 1, 1, 0}, []int{10, 12, 11, 14, 20, 12})
	if want := [][]int{{2, 0, 0}, {1, 2, 0}, {0, 1, 0}, {0, 0, 0}}; e != api.OK || !reflect.DeepEqual(l, want) {
		t.Errorf("%v, %v", l, e)
	}
	if l, e := window.Load(api.Calendar{}, nil, nil); e != api.OK || len(l) > 0 {
		t.Errorf("%v, %v", l, e)
	}
	many := slices.Repeat([]int{0}, 25)
	for name, x := range map[string]struct {
		teams, days []int
		load, fits  api.Errno
	}{
		"none":          {nil, nil, api.OK, api.OK},
		"fits":          {[]int{0, 1, 1}, []int{11, 12, 13}, api.OK, api.OK},
		"two in one":    {[]int{0, 0}, []int{10, 11}, api.OK, api.ErrFull},
		"two in two":    {[]int{0, 0}, []int{11, 12}, api.OK, api.OK},
		"three of two":  {[]int{1, 1, 1}, []int{12, 13, 14}, api.OK, api.ErrFull},
		"no window":     {[]int{0, 0, 0}, []int{10, 10, 15}, api.ErrWindow, api.ErrWindow},
		"another team":  {[]int{1}, []int{10}, api.ErrWindow, api.ErrWindow},
		"negative day":  {[]int{1}, []int{-1}, api.ErrWindow, api.ErrWindow},
		"no team":       {[]int{0, 3}, []int{99, 12}, api.ErrRange, api.ErrRange},
		"team -1":       {[]int{-1}, []int{99}, api.ErrRange, api.ErrRange},
		"lengths":       {append(many, -1), many, api.ErrForm, api.ErrForm},
		"25":            {append(many[:24:24], -1), many, api.ErrLimit, api.ErrLimit},
		"24 in a day":   {many[:24], slices.Repeat([]int{10}, 24), api.OK, api.ErrFull},
		"fewer lengths": {nil, []int{10}, api.ErrForm, api.ErrForm},
	} {
		l, e := window.Load(c, x.teams, x.days)
		if e != x.load || (e == api.OK) != (len(l) == 4) {
			t.Errorf("%s: %v, %v", name, l, e)
		}
		if e := window.Fits(c, x.teams, x.days); e != x.fits {
			t.Errorf("%s: %v", name, e)
		}
		d, ok, e := window.Earliest(c, x.teams, x.days, 0, 0)
		if e != x.fits || e != api.OK && (d != 0 || ok) {
			t.Errorf("%s: %d, %v, %v", name, d, ok, e)
		}
		want := x.fits
		if want == api.OK || want == api.ErrWindow || want == api.ErrFull {
			want = api.ErrRange
		}
		for _, team := range []int{-1, 3} {
			if d, ok, e := window.Earliest(c, x.teams, x.days, team, 0); e != want || d != 0 || ok {
				t.Errorf("%s: %d, %v, %v", name, d, ok, e)
			}
		}
	}
}

func TestEarliest(t *testing.T) { // P30.3
	for _, x := range []struct {
		teams, days []int
		team, from  int
		want        int
	}{
		{nil, nil, 0, -9, 10}, {nil, nil, 0, 11, 11}, {nil, nil, 0, 15, -1},
		{[]int{0}, []int{11}, 0, 0, 12}, {[]int{0, 0}, []int{11, 14}, 0, 0, -1}, {[]int{0}, []int{14}, 0, 11, 11},
		{[]int{1}, []int{12}, 1, 0, 12}, {[]int{1, 1}, []int{12, 12}, 1, 0, 20}, {nil, nil, 1, math.MaxInt, -1}, {nil, nil, 1, math.MinInt, 12},
	} {
		d, ok, e := window.Earliest(calendar(nothing), x.teams, x.days, x.team, x.from)
		if d != max(x.want, 0) || ok != (x.want >= 0) || e != api.OK {
			t.Errorf("%v: %d, %v, %v", x, d, ok, e)
		}
	}
	none := calendar(func(c *api.Calendar) { c.Room[0] = 0 })
	if d, ok, e := window.Earliest(none, nil, nil, 0, 0); d != 0 || ok || e != api.OK {
		t.Errorf("%d, %v, %v", d, ok, e)
	}
}

func TestConsequences(t *testing.T) { // Earliest is the first day on which one more change fits; Next is Earliest where there is always room
	r := rand.New(rand.NewSource(1))
	for range 500 {
		c := api.Calendar{Room: []int{r.Intn(3), r.Intn(3), 24}}
		day := 0
		for range r.Intn(5) {
			day += r.Intn(3)
			w := win(day, day+1+r.Intn(3))
			for team := range 3 {
				if r.Intn(2) == 0 {
					w.Teams = append(w.Teams, team)
				}
			}
			day = w.Days.To
			c.Windows = append(c.Windows, w)
		}
		var teams, days []int
		for range r.Intn(4) {
			teams, days = append(teams, r.Intn(3)), append(days, r.Intn(12))
		}
		if window.Fits(c, teams, days) != api.OK {
			continue
		}
		team, from := r.Intn(3), r.Intn(6)
		got, ok, _ := window.Earliest(c, teams, days, team, from)
		for d := from; d < 30; d++ {
			fits := window.Fits(c, append(slices.Clone(teams), team), append(slices.Clone(days), d)) == api.OK
			if ok && d < got && fits || ok && d == got && !fits || !ok && fits {
				t.Fatalf("%v, %v, %v, %d from %d: %d, %v", c, teams, days, team, from, got, ok)
			}
		}
		next, ok2, _ := window.Next(c, 2, from)
		early, ok3, _ := window.Earliest(c, nil, nil, 2, from)
		if next != early || ok2 != ok3 {
			t.Fatalf("%d, %d", next, early)
		}
	}
}

func TestMemory(t *testing.T) { // R3
	c, teams, days := calendar(nothing), []int{0}, []int{10}
	apart(t, "Load", func() [][]int { l, _ := window.Load(c, teams, days); return l }, c, teams, days)
}
