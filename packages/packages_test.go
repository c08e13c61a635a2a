package packages_test

import (
	"cipherplan/api"
	"cipherplan/packages"
	"fmt"
	"slices"
	"strings"
	"testing"
)

func v(l ...int) []int { return l }

// pack returns a package of a version, with needs of any version.
func pack(name string, version []int, needs ...string) api.Package {
	p := api.Package{Name: name, Version: version}
	for _, n := range needs {
		p.Needs = append(p.Needs, api.Need{Name: n})
	}
	return p
}

func TestVersions(t *testing.T) { // P12.1
	for s, want := range map[string][]int{"0": v(0), "1.10": v(1, 10), "1.2.0": v(1, 2, 0), "99999.0.0.99999": v(99999, 0, 0, 99999)} {
		got, e := packages.Version(s)
		text, f := packages.Text(want)
		if e != api.OK || f != api.OK || !slices.Equal(got, want) || text != s {
			t.Errorf("%q: %v, %v, %q, %v", s, got, e, text, f)
		}
	}
	for _, s := range []string{"", ".", "1.", ".1", "1..2", "01", "1.00", "100000", "1.2.3.4.5", "-1", "+1", "1.a", " 1", "1 ", "1_0", "1.2.3.4."} {
		if got, e := packages.Version(s); e != api.ErrVersion || len(got) > 0 {
			t.Errorf("%q: %v, %v", s, got, e)
		}
	}
	for _, l := range [][]int{nil, v(-1), v(100000), v(1, 2, 3, 4, 5)} {
		if s, e := packages.Text(l); e != api.ErrVersion || s != "" {
			t.Errorf("%v: %q, %v", l, s, e)
		}
	}
}

func TestCompare(t *testing.T) { // P12.1
	ordered := [][]int{v(0), v(0, 0, 0, 1), v(0, 1), v(1), v(1, 2), v(1, 9), v(1, 10), v(1, 10, 1), v(2), v(99999)}
	for i, a := range ordered {
		for k, b := range ordered {
			want := 0
			if i < k {
				want = -1
			} else if i > k {
				want = 1
			}
			if packages.Compare(a, b) != want || packages.Compare(append(slices.Clone(a), 0), b) != want {
				t.Errorf("%v, %v", a, b)
			}
		}
	}
	if packages.Compare(v(1, 2), v(1, 2, 0)) != 0 || packages.Compare(v(0), v(0, 0)) != 0 {
		t.Error("1.2 and 1.2.0")
	}
}

func TestRanges(t *testing.T) { // P12.1
	r := api.Range{Low: v(1, 2), High: v(2)}
	for _, x := range []struct {
		r    api.Range
		v    []int
		want bool
	}{{r, v(1, 2), true}, {r, v(1, 2, 0), true}, {r, v(1, 99), true}, {r, v(2, 0), false}, {r, v(2), false}, {r, v(1, 1, 9), false}, {api.Range{}, v(0), true}, {api.Range{Low: v(3)}, v(99999), true}, {api.Range{Low: v(3)}, v(2, 9), false}, {api.Range{High: v(3)}, v(0), true}, {api.Range{High: v(3)}, v(3), false}} {
		if packages.In(x.r, x.v) != x.want {
			t.Errorf("%v, %v", x.r, x.v)
		}
	}
}

// list returns a valid list with something changed.
func list(f func(l []api.Package)) []api.Package {
	l := []api.Package{pack("app", v(1), "lib", "tls"), pack("lib", v(1, 5), "tls", "app"), pack("none", v(0), "nothing"), pack("tls", v(3)), pack("web", v(1), "lib")}
	l[1].Needs[0].Range = api.Range{Low: v(4)} // not met
	f(l)
	return l
}

func nothing([]api.Package) {}

// many returns so many packages.
func many(n int) []api.Package {
	var l []api.Package
	for i := range n {
		l = append(l, pack(fmt.Sprintf("p%03d", i), v(i), fmt.Sprintf("p%03d", i+1)))
	}
	return l
}

func TestCheck(t *testing.T) { // P12.2
	nine := slices.Repeat([]api.Need{{Name: "x"}}, 9)
	for name, x := range map[string]struct {
		l    []api.Package
		want api.Errno
	}{
		"none":         {nil, api.OK},
		"valid":        {list(nothing), api.OK},
		"64":           {many(64), api.OK},
		"65":           {many(65), api.ErrLimit},
		"eight needs":  {list(func(l []api.Package) { l[2].Needs = nine[:8] }), api.OK},
		"nine needs":   {list(func(l []api.Package) { l[2].Needs = nine }), api.ErrLimit},
		"no name":      {list(func(l []api.Package) { l[0].Name = "" }), api.ErrName},
		"a need":       {list(func(l []api.Package) { l[0].Needs[1].Name = "a b" }), api.ErrName},
		"long":         {list(func(l []api.Package) { l[4].Name = strings.Repeat("z", 33) }), api.ErrName},
		"no version":   {list(func(l []api.Package) { l[3].Version = nil }), api.ErrVersion},
		"version":      {list(func(l []api.Package) { l[3].Version = v(1, -1) }), api.ErrVersion},
		"low":          {list(func(l []api.Package) { l[0].Needs[0].Range.Low = v(1, 2, 3, 4, 5) }), api.ErrVersion},
		"high":         {list(func(l []api.Package) { l[0].Needs[0].Range.High = v(-1) }), api.ErrVersion},
		"twice":        {list(func(l []api.Package) { l[1].Name = "app" }), api.ErrOrder},
		"descending":   {list(func(l []api.Package) { l[0].Name = "x" }), api.ErrOrder},
		"limit first":  {list(func(l []api.Package) { l[0].Name = ""; l[4].Needs = nine }), api.ErrLimit},
		"name first":   {list(func(l []api.Package) { l[0].Version = nil; l[4].Needs[0].Name = "" }), api.ErrName},
		"version next": {list(func(l []api.Package) { l[0].Name = "x"; l[4].Version = nil }), api.ErrVersion},
	} {
		if e := packages.Check(x.l); e != x.want {
			t.Errorf("%s: %v", name, e)
		}
		if x.want == api.OK {
			continue
		}
		if l, e := packages.Missing(x.l); e != x.want || len(l) > 0 {
			t.Errorf("%s: %v", name, e)
		}
		if l, e := packages.Reach(x.l, "?"); e != x.want || len(l) > 0 {
			t.Errorf("%s: %v", name, e)
		}
		if l, e := packages.Uses(x.l, []api.Known{{Range: api.Range{Low: v(-1)}}}, "?"); e != x.want || len(l) > 0 {
			t.Errorf("%s: %v", name, e)
		}
	}
}

func TestMissing(t *testing.T) { // P12.2
	if l, e := packages.Missing(list(nothing)); e != api.OK || !slices.Equal(l, []string{"lib", "none"}) {
		t.Errorf("%v, %v", l, e)
	}
	if l, e := packages.Missing(list(func(l []api.Package) { l[3].Version = v(4); l[2].Needs = nil })); e != api.OK || len(l) > 0 {
		t.Errorf("%v, %v", l, e)
	}
}

func TestReach(t *testing.T) { // P12.2
	for name, want := range map[string]string{"app": "app lib tls", "lib": "app lib tls", "tls": "tls", "web": "app lib tls web", "none": "none"} {
		if l, e := packages.Reach(list(nothing), name); e != api.OK || strings.Join(l, " ") != want {
			t.Errorf("%s: %v, %v", name, l, e)
		}
	}
	for _, name := range []string{"", "x", "nothing"} {
		if l, e := packages.Reach(list(nothing), name); e != api.ErrNone || len(l) > 0 {
			t.Errorf("%s: %v, %v", name, l, e)
		}
	}
	if l, e := packages.Reach(many(64), "p000"); e != api.OK || len(l) != 64 {
		t.Errorf("%v, %v", l, e)
	}
	alone := list(func(l []api.Package) { l[0].Needs = nil })
	if l, e := packages.Reach(alone, "lib"); e != api.OK || strings.Join(l, " ") != "app lib" {
		t.Errorf("%v, %v", l, e) // the need of tls 4 is not met
	}
}

func TestUses(t *testing.T) { // P12.3
	rc4, md5, sha1 := api.Use{Alg: api.RC4, Bits: 128}, api.Use{Alg: api.MD5}, api.Use{Alg: api.SHA1}
	known := []api.Known{
		{Name: "tls", Range: api.Range{High: v(3)}, Uses: []api.Use{sha1}},
		{Name: "tls", Range: api.Range{Low: v(3)}, Uses: []api.Use{rc4, {Alg: api.RC4, Bits: 40}, md5}},
		{Name: "app", Uses: []api.Use{md5}},
		{Name: "web", Uses: []api.Use{{Alg: api.DES3, Bits: 112}}},
		{Name: "x y", Uses: []api.Use{sha1}},
	}
	if l, e := packages.Uses(list(nothing), known, "lib"); e != api.OK || !slices.Equal(l, []api.Use{md5, {Alg: api.RC4, Bits: 40}, rc4}) {
		t.Errorf("%v, %v", l, e)
	}
	if l, e := packages.Uses(list(nothing), known, "none"); e != api.OK || len(l) > 0 {
		t.Errorf("%v, %v", l, e)
	}
	bad := []api.Known{{Name: "x", Uses: []api.Use{{}}}, {Name: "y", Range: api.Range{High: v(-1)}}}
	if l, e := packages.Uses(list(nothing), bad, "x"); e != api.ErrNone || len(l) > 0 {
		t.Errorf("%v, %v", l, e)
	}
	if l, e := packages.Uses(list(nothing), bad, "lib"); e != api.ErrVersion || len(l) > 0 {
		t.Errorf("%v, %v", l, e)
	}
	if l, e := packages.Uses(list(nothing), bad[:1], "lib"); e != api.ErrUse || len(l) > 0 {
		t.Errorf("%v, %v", l, e)
	}
}

func TestMore(t *testing.T) { // consequence: what a needed package can come to, the package that needs it can come to
	known := []api.Known{{Name: "tls", Uses: []api.Use{{Alg: api.MD5}}}, {Name: "app", Uses: []api.Use{{Alg: api.SHA1}}}}
	lib, _ := packages.Uses(list(nothing), known, "lib")
	web, _ := packages.Uses(list(nothing), known, "web")
	for _, u := range lib {
		if !slices.Contains(web, u) {
			t.Error(u)
		}
	}
}

func TestMemory(t *testing.T) { // R3
	l, known := list(nothing), []api.Known{{Name: "tls", Uses: []api.Use{{Alg: api.MD5}}}}
	apart(t, "Missing", func() []string { s, _ := packages.Missing(l); return s }, l)
	apart(t, "Reach", func() []string { s, _ := packages.Reach(l, "app"); return s }, l)
	apart(t, "Uses", func() []api.Use { u, _ := packages.Uses(l, known, "tls"); return u }, l, known)
}
