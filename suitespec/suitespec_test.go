package suitespec_test

import (
	"cipherplan/api"
	"cipherplan/catalog"
	"cipherplan/suitespec"
	"math"
	"math/rand"
	"slices"
	"strings"
	"testing"
)

func all() []int { return []int{1, 2, 3, 4, 5, 6, 7, 8, 9, 10, 11, 12, 13, 14, 15, 16} }

func TestNames(t *testing.T) { // P8.2
	for names, want := range map[string][]int{
		"all":              all(),
		"high":             {6, 7, 8, 9, 10, 11, 12, 13, 14, 15, 16},
		"medium":           {3, 4, 5},
		"low":              {1, 2},
		"v1":               {1, 2, 3, 4, 5, 6, 7, 8},
		"v2":               {1, 2, 3, 4, 5, 6, 7, 8},
		"v3":               {2, 3, 4, 5, 6, 7, 8, 9, 10, 11, 12, 13},
		"v4":               {14, 15, 16},
		"rsakx":            {1, 2, 3, 6, 13},
		"rsa":              {1, 2, 3, 5, 6, 7, 8, 10, 12, 13},
		"dsa":              {4},
		"ecdhe":            {8, 9, 10, 11, 12, 14, 15},
		"hmacsha1":         {2, 3, 4, 5, 6, 7, 8},
		"aead":             {10, 11, 12, 13, 14, 15, 16},
		"rc4":              {1, 2},
		"md5":              {},
		"ed25519":          {},
		"chacha":           {12, 15},
		"chacha+v4":        {15},
		"ecdhe-rsa-chacha": {12},
		"rsa-rc4-md5":      {1},
		"aesgcm+ecdhe":     {10, 11, 14},
		"rsa+dsa":          {},
		"all+all+v3+high":  {6, 7, 8, 9, 10, 11, 12, 13},
	} {
		if l, ok := suitespec.Set(names); !ok || !slices.Equal(l, want) {
			t.Errorf("%q: %v, %v", names, l, ok)
		}
	}
	for _, names := range []string{"", "+", "all+", "+all", "all++v1", "v0", "v5", "v", "All", "rsa-2048", "@strength", "-all", "!all", " all", "all+x", "x+all", "all:all", "aescbc-128"} {
		if l, ok := suitespec.Set(names); ok || len(l) > 0 {
			t.Errorf("%q: %v, %v", names, l, ok)
		}
	}
}

func TestParse(t *testing.T) { // P8.1
	for spec, want := range map[string][]int{
		"":                                  {},
		"aesgcm+ecdhe:!v4":                  {10, 11},
		"rsa+v1:@strength":                  {6, 7, 8, 3, 5, 1, 2},
		"rc4:des3:rc4":                      {1, 2, 3, 4, 5},
		"des3:rc4":                          {3, 4, 5, 1, 2},
		"all:-v3":                           {1, 14, 15, 16},
		"all:-all:v4":                       {14, 15, 16},
		"!all:all":                          {},
		"!rc4:all+v1":                       {3, 4, 5, 6, 7, 8},
		"rc4:!rc4:rc4":                      {},
		"rc4:-rc4:rc4":                      {1, 2},
		"v1:+rc4":                           {3, 4, 5, 6, 7, 8, 1, 2},
		"v1:+rc4:+des3":                     {6, 7, 8, 1, 2, 3, 4, 5},
		"+rc4":                              {},
		"-rc4:!rc4":                         {},
		"v1:+hmacsha1+rc4":                  {1, 3, 4, 5, 6, 7, 8, 2},
		"v4:@strength":                      {15, 16, 14},
		"@strength":                         {},
		"@strength:rc4":                     {1, 2},
		"chacha+v4:chacha":                  {15, 12},
		"dsa:rsa-rc4-md5:md5:@strength":     {4, 1},
		"v4:des3:+v4:!des3:all+v1":          {14, 15, 16, 1, 2, 6, 7, 8},
		strings.Repeat("all:", 199) + "rc4": all(),
	} {
		if l, n, e := suitespec.Parse(spec); e != api.OK || n != 0 || !slices.Equal(l, want) {
			t.Errorf("%q: %v, %d, %v", spec, l, n, e)
		}
	}
}

func TestParseErrors(t *testing.T) { // P8.1
	for spec, want := range map[string]int{":": 1, "all:": 2, ":all": 1, "all::all": 2, "x": 1, "all:rc4:x:y": 3, "-": 1, "!": 1, "+": 1, "--all": 1, "!-all": 1, "++all": 1, "@": 1, "@Strength": 1, "-@strength": 1, "@strength+all": 1, "all ": 1, "all:rc4+": 2, "rc4+@strength": 1} {
		if l, n, e := suitespec.Parse(spec); e != api.ErrWord || n != want || len(l) > 0 {
			t.Errorf("%q: %v, %d, %v", spec, l, n, e)
		}
	}
	for _, spec := range []string{strings.Repeat("all:", 200) + "all", strings.Repeat(":", 200), strings.Repeat("x", 8193)} {
		if l, n, e := suitespec.Parse(spec); e != api.ErrLimit || n != 0 || len(l) > 0 {
			t.Errorf("%d bytes: %v, %d, %v", len(spec), l, n, e)
		}
	}
	if _, n, e := suitespec.Parse(strings.Repeat("x", 8192)); e != api.ErrWord || n != 1 {
		t.Errorf("%d, %v", n, e)
	}
}

func TestStrength(t *testing.T) { // P8.2
	for code, want := range []int{0, 60, 60, 112, 112, 112, 128, 128, 128, 256, 128, 256, 256, 256, 128, 256, 256, 0} {
		if n := suitespec.Strength(code); n != want {
			t.Errorf("%d: %d", code, n)
		}
	}
	if suitespec.Strength(math.MinInt) != 0 || suitespec.Strength(math.MaxInt) != 0 {
		t.Error("no suite")
	}
	l := []int{99, 1, 14, 2, 16, -1, 3, 9}
	want := []int{16, 9, 14, 3, 1, 2, 99, -1}
	if s := suitespec.Sort(l); !slices.Equal(s, want) || !slices.Equal(suitespec.Sort(s), want) || len(suitespec.Sort(nil)) > 0 {
		t.Errorf("%v", s)
	}
}

func TestPrint(t *testing.T) { // P8.3
	for _, x := range []struct {
		l    []int
		want string
		e    api.Errno
	}{
		{nil, "", api.OK},
		{[]int{10, 1}, "ecdhe-rsa-aes128-gcm:rsa-rc4-md5", api.OK},
		{[]int{15, 12}, "chacha+v4:ecdhe-rsa-chacha", api.OK},
		{[]int{0}, "", api.ErrSuite},
		{[]int{1, 17}, "", api.ErrSuite},
		{[]int{1, 1}, "", api.ErrTwice},
		{[]int{1, 1, -1}, "", api.ErrSuite},
		{append(all(), 16), "", api.ErrTwice},
	} {
		if s, e := suitespec.Print(x.l); s != x.want || e != x.e {
			t.Errorf("%v: %q, %v", x.l, s, e)
		}
	}
	r := rand.New(rand.NewSource(1))
	for range 1000 { // consequence: Parse of Print is the row
		l := all()
		r.Shuffle(16, func(i, j int) { l[i], l[j] = l[j], l[i] })
		l = l[:r.Intn(17)]
		s, e := suitespec.Print(l)
		if m, _, f := suitespec.Parse(s); e != api.OK || f != api.OK || !slices.Equal(l, m) {
			t.Fatalf("%v: %q, %v", l, s, m)
		}
	}
}

func TestKilled(t *testing.T) { // consequence: a suite that was killed is not in the row
	r := rand.New(rand.NewSource(2))
	names := []string{"all", "high", "low", "v1", "v4", "rc4", "des3", "chacha", "rsa", "ecdhe", "aead"}
	for range 2000 {
		var words []string
		killed := map[int]bool{}
		for range r.Intn(8) {
			name, sign := names[r.Intn(len(names))], []string{"", "-", "!", "+", ""}[r.Intn(5)]
			words = append(words, sign+name)
			if set, _ := suitespec.Set(name); sign == "!" {
				for _, code := range set {
					killed[code] = true
				}
			}
		}
		l, _, e := suitespec.Parse(strings.Join(words, ":"))
		met := map[int]bool{}
		for _, code := range l {
			if killed[code] || met[code] || e != api.OK {
				t.Fatalf("%q: %v", words, l)
			}
			met[code] = true
		}
	}
	if len(catalog.Suites()) != 16 {
		t.Error("suites")
	}
}

func TestMemory(t *testing.T) { // R3
	l := []int{1, 2, 3}
	apart(t, "Sort", func() []int { return suitespec.Sort(l) }, l)
	apart(t, "Print", func() string { s, _ := suitespec.Print(l); return s }, l)
}
