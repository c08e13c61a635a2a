package identity_test

import (
	"cipherplan/api"
	"cipherplan/finding"
	"cipherplan/identity"
	"fmt"
	"math"
	"math/rand"
	"reflect"
	"slices"
	"testing"
)

func at(host string, machine, day int) api.Finding {
	return api.Finding{Source: 1, Host: host, Machine: machine, Day: day, Confidence: 50, Kind: api.FindMost, Subject: "tls", Number: 1}
}

func norm(t *testing.T, l ...api.Finding) []api.Finding {
	t.Helper()
	n, e := finding.Norm(l)
	if e != api.OK {
		t.Fatal(e)
	}
	return n
}

// groups returns the findings of the entities.
func groups(t *testing.T, gap int, l ...api.Finding) string {
	t.Helper()
	e, f := identity.Entities(norm(t, l...), gap)
	var g [][]int
	for _, x := range e {
		g = append(g, x.Findings)
	}
	if f != api.OK {
		t.Error(f)
	}
	return fmt.Sprint(g)
}

func TestEntities(t *testing.T) { // P15.1
	for name, x := range map[string]struct {
		gap  int
		l    []api.Finding
		want string
	}{
		"none":                         {5, nil, "[]"},
		"gap 2":                        {2, []api.Finding{at("a", 1, 3), at("a", 0, 5)}, "[[0 1]]"},
		"gap 1":                        {1, []api.Finding{at("a", 1, 3), at("a", 0, 5)}, "[[0] [1]]"},
		"before":                       {2, []api.Finding{at("a", 1, 5), at("a", 0, 3)}, "[[0 1]]"},
		"renamed":                      {0, []api.Finding{at("a", 1, 3), at("b", 1, 900)}, "[[0 1]]"},
		"two machines":                 {9, []api.Finding{at("a", 1, 3), at("a", 2, 3)}, "[[0] [1]]"},
		"another host":                 {9, []api.Finding{at("a", 1, 3), at("b", 0, 3)}, "[[0] [1]]"},
		"the nearer":                   {9, []api.Finding{at("a", 0, 5), at("a", 1, 1), at("a", 2, 8)}, "[[0 2] [1]]"},
		"the earlier":                  {9, []api.Finding{at("a", 0, 5), at("a", 2, 3), at("a", 1, 7)}, "[[0 2] [1]]"},
		"the least machine":            {9, []api.Finding{at("a", 0, 5), at("a", 2, 3), at("a", 1, 3)}, "[[0 1] [2]]"},
		"days in a row":                {2, []api.Finding{at("a", 0, 1), at("a", 0, 3), at("a", 0, 5), at("a", 0, 8)}, "[[0 1 2] [3]]"},
		"gap 0":                        {0, []api.Finding{at("a", 0, 1), {Source: 2, Host: "a", Day: 1, Confidence: 1, Kind: api.FindMost, Subject: "x", Number: 1}, at("a", 0, 2)}, "[[0 1] [2]]"},
		"the row skips the joined":     {3, []api.Finding{at("a", 0, 1), at("a", 0, 4), at("a", 0, 7), at("a", 5, 4)}, "[[0 1 2 3]]"},
		"the row skips what is joined": {2, []api.Finding{at("a", 0, 1), at("a", 0, 2), at("a", 0, 3), at("a", 5, 4), at("a", 0, 6), at("a", 0, 7), at("a", 0, 9)}, "[[0] [1 2 3 6] [4 5]]"},
		"over joined ones":             {4, []api.Finding{at("a", 0, 0), at("a", 0, 5), at("a", 5, 9)}, "[[0] [1 2]]"},
		"behind a joined one":          {2, []api.Finding{at("a", 1, 0), at("a", 0, 1), at("a", 0, 3)}, "[[0 2] [1]]"},
		"hosts apart":                  {9, []api.Finding{at("a", 0, 1), at("b", 0, 1)}, "[[0] [1]]"},
		"by the machine":               {9, []api.Finding{at("a", 1, 1), at("b", 1, 1), at("a", 0, 1), at("b", 0, 1)}, "[[0 1 2 3]]"},
	} {
		if g := groups(t, x.gap, x.l...); g != x.want {
			t.Errorf("%s: %s, not %s", name, g, x.want)
		}
	}
}

func TestFields(t *testing.T) { // P15.1
	l := norm(t, at("b", 7, 1), at("a", 7, 2), at("a", 0, 2), at("c", 9, 3))
	e, f := identity.Entities(l, 5)
	want := []api.Entity{{Number: 0, Hosts: []string{"a", "b"}, Machines: []int{7}, Findings: []int{0, 1, 2}}, {Number: 3, Hosts: []string{"c"}, Machines: []int{9}, Findings: []int{3}}}
	if f != api.OK || !reflect.DeepEqual(e, want) {
		t.Errorf("%+v, %v", e, f)
	}
	e, _ = identity.Entities(norm(t, at("a", 0, 1)), 0)
	if len(e) != 1 || len(e[0].Machines) > 0 {
		t.Errorf("%+v", e)
	}
}

// wrong returns lists that are not normal.
func wrong() map[string][]api.Finding {
	var many []api.Finding
	for i := range 401 {
		many = append(many, at("a", 0, i))
	}
	return map[string][]api.Finding{"order": {at("b", 0, 1), at("a", 0, 1)}, "twice": {at("a", 0, 1), at("a", 0, 1)}, "wrong": {{}}, "many": many}
}

func TestErrors(t *testing.T) { // P15.1 to P15.3
	for name, l := range wrong() {
		e, f1 := identity.Entities(l, -1)
		c, f2 := identity.Clones(l)
		n, f3 := identity.Touched(l, -1, api.Finding{})
		m, f4 := identity.Names(l, -1, "a", 1)
		if f1 != api.ErrFinding || f2 != api.ErrFinding || f3 != api.ErrFinding || f4 != api.ErrFinding || len(e)+len(c)+len(n)+len(m) > 0 {
			t.Errorf("%s: %v, %v, %v, %v", name, f1, f2, f3, f4)
		}
	}
	for _, gap := range []int{-1, api.MaxGap + 1, math.MinInt, math.MaxInt} {
		_, f1 := identity.Entities(nil, gap)
		_, f2 := identity.Touched(nil, gap, api.Finding{})
		_, f3 := identity.Names(nil, gap, "a", 1)
		if f1 != api.ErrRange || f2 != api.ErrRange || f3 != api.ErrRange {
			t.Errorf("%d: %v, %v, %v", gap, f1, f2, f3)
		}
	}
	if _, f := identity.Touched(nil, api.MaxGap, api.Finding{}); f != api.ErrFinding {
		t.Error(f)
	}
}

func TestMost(t *testing.T) { // P15.1: a list of MaxFindings
	var l []api.Finding
	for i := range 400 {
		l = append(l, at("a", 0, i))
	}
	if e, f := identity.Entities(l, 1); f != api.OK || len(e) != 1 || len(e[0].Findings) != 400 {
		t.Errorf("%d, %v", len(e), f)
	}
}

func TestOf(t *testing.T) { // P15.2
	e := []api.Entity{{Number: 4, Findings: []int{4, 7}}, {Number: 5, Findings: []int{5, 7}}}
	for i, want := range map[int]int{4: 4, 5: 5, 7: 4, 6: -1, -1: -1} {
		if n := identity.Of(e, i); n != want {
			t.Errorf("%d: %d", i, n)
		}
	}
	if identity.Of(nil, 0) != -1 {
		t.Error("none")
	}
}

func TestClones(t *testing.T) { // P15.2
	l := norm(t, at("b", 7, 3), at("a", 7, 3), at("c", 7, 4), at("x", 2, 9), at("w", 2, 9), at("a", 0, 3), at("a", 7, 1), at("b", 7, 1), at("z", 0, 9), at("y", 0, 9))
	want := []api.Clone{{Machine: 2, Day: 9, Hosts: []string{"w", "x"}}, {Machine: 7, Day: 1, Hosts: []string{"a", "b"}}, {Machine: 7, Day: 3, Hosts: []string{"a", "b"}}}
	if c, e := identity.Clones(l); e != api.OK || !reflect.DeepEqual(c, want) {
		t.Errorf("%v, %v", c, e)
	}
	if c, e := identity.Clones(nil); e != api.OK || len(c) > 0 {
		t.Errorf("%v, %v", c, e)
	}
}

func TestNames(t *testing.T) { // P15.2 and P15.3
	l := norm(t, at("a", 1, 1), at("a", 2, 1), at("a", 3, 2), at("b", 3, 1), at("c", 9, 1))
	if n, e := identity.Names(l, 0, "a", 1); e != api.OK || !slices.Equal(n, []int{0, 1}) {
		t.Errorf("%v, %v", n, e)
	}
	if n, e := identity.Names(l, 0, "b", 2); e != api.OK || len(n) > 0 {
		t.Errorf("%v, %v", n, e)
	}
	for _, x := range []struct {
		f    api.Finding
		want []int
	}{{at("a", 0, 9), []int{0, 1, 2}}, {at("b", 0, 9), []int{2}}, {at("z", 1, 9), []int{0}}, {at("b", 9, 9), []int{2, 4}}, {at("z", 0, 9), nil}, {at("z", 4, 9), nil}} {
		if n, e := identity.Touched(l, 0, x.f); e != api.OK || !slices.Equal(n, x.want) {
			t.Errorf("%v: %v, %v", x.f, n, e)
		}
	}
}

// random returns a normal list.
func random(t *testing.T, r *rand.Rand) []api.Finding {
	var l []api.Finding
	for range r.Intn(12) {
		l = append(l, at(string(rune('a'+r.Intn(3))), r.Intn(4), r.Intn(12)))
	}
	return norm(t, l...)
}

// TestUntouched checks the consequences at random: each finding is about one entity, which has at most one machine, and what is not touched by a finding stays as it was.
func TestUntouched(t *testing.T) {
	r := rand.New(rand.NewSource(1))
	for range 3000 {
		l, gap := random(t, r), r.Intn(4)
		e, _ := identity.Entities(l, gap)
		count := 0
		for _, x := range e {
			count += len(x.Findings)
			if len(x.Machines) > 1 || x.Number != x.Findings[0] || identity.Of(e, x.Findings[0]) != x.Number {
				t.Fatalf("%+v", x)
			}
		}
		f := at(string(rune('a'+r.Intn(4))), r.Intn(5), r.Intn(12))
		touched, _ := identity.Touched(l, gap, f)
		m := norm(t, append(slices.Clone(l), f)...)
		after, _ := identity.Entities(m, gap)
		for _, x := range e {
			same := slices.ContainsFunc(after, func(y api.Entity) bool { return slices.Equal(pick(l, x), pick(m, y)) })
			if !same && !slices.Contains(touched, x.Number) {
				t.Fatalf("%v, %v: %+v is not touched", l, f, x)
			}
		}
		if count != len(l) {
			t.Fatalf("%d of %d findings", count, len(l))
		}
	}
}

// pick returns the findings of an entity.
func pick(l []api.Finding, e api.Entity) []api.Finding {
	var p []api.Finding
	for _, i := range e.Findings {
		p = append(p, l[i])
	}
	return p
}

func TestMemory(t *testing.T) { // R3
	l := norm(t, at("b", 7, 3), at("a", 7, 3), at("a", 0, 3))
	apart(t, "Entities", func() []api.Entity { e, _ := identity.Entities(l, 3); return e }, l)
	apart(t, "Clones", func() []api.Clone { c, _ := identity.Clones(l); return c }, l)
	apart(t, "Names", func() []int { n, _ := identity.Names(l, 3, "a", 3); return n }, l)
	apart(t, "Touched", func() []int { n, _ := identity.Touched(l, 3, l[0]); return n }, l)
}
