package endpoint_test

import (
	"cipherplan/api"
	"cipherplan/blocks"
	"cipherplan/endpoint"
	"cipherplan/sample"
	"cipherplan/settings"
	"reflect"
	"slices"
	"strings"
	"testing"
)

// web returns a valid endpoint with something changed.
func web(f func(*api.Endpoint)) api.Endpoint {
	e := sample.Endpoint("web", 1, 10, 8, 15)
	e.Least, e.OwnOrder, e.Fallback = 2, true, true
	e.Identities = append(e.Identities, api.Identity{Key: api.Use{Alg: api.ED25519}, KeyId: 7})
	e.Anchors = []int{0, 1000, api.MaxKey}
	f(&e)
	return e
}

func nothing(*api.Endpoint) {}

// store returns a key store with the identities of web.
func store() []api.Entry {
	var l []api.Entry
	for i, id := range web(nothing).Identities {
		l = append(l, api.Entry{Alias: string(rune('a' + i)), Key: id.Key, KeyId: id.KeyId, Chain: id.Chain})
	}
	return l
}

func TestCheck(t *testing.T) { // P9.1
	sixteen := []int{0, 1, 2, 3, 4, 5, 6, 7, 8, 9, 10, 11, 12, 13, 14, 15}
	nine := slices.Repeat(web(nothing).Identities[0].Chain, 9)
	for name, f := range map[string]func(e *api.Endpoint){
		"right":     nothing,
		"bare":      func(e *api.Endpoint) { *e = api.Endpoint{Name: "w", Least: 1, Most: 1} },
		"extremes":  func(e *api.Endpoint) { e.Name = strings.Repeat("-", 32); e.Least, e.Most = 4, 4; e.Anchors = sixteen },
		"hashes":    func(e *api.Endpoint) { e.Hashes = []int{1, 2, 3, 4} },
		"one key":   func(e *api.Endpoint) { e.Identities = slices.Repeat(e.Identities[:1], 4) },
		"eight":     func(e *api.Endpoint) { e.Identities[0].Chain = nine[:8] },
		"no chains": func(e *api.Endpoint) { e.Identities[0].Chain = nil },
	} {
		if e := endpoint.Check(web(f)); e != api.OK {
			t.Errorf("%s: %v", name, e)
		}
	}
	for name, f := range wrong(nine) {
		e := web(f)
		if endpoint.Check(e) != api.ErrEndpoint {
			t.Error(name)
		}
		if l, f := endpoint.ToSettings(e, nil); f != api.ErrEndpoint || len(l) > 0 {
			t.Errorf("%s: %v", name, f)
		}
		if l, f := endpoint.ToBlocks(e, nil); f != api.ErrEndpoint || len(l) > 0 {
			t.Errorf("%s: %v", name, f)
		}
	}
}

// wrong returns what makes the endpoint one that is not valid.
func wrong(nine []api.Certificate) map[string]func(*api.Endpoint) {
	return map[string]func(*api.Endpoint){
		"no name":         func(e *api.Endpoint) { e.Name = "" },
		"no word":         func(e *api.Endpoint) { e.Name = "a/b" },
		"a long name":     func(e *api.Endpoint) { e.Name = strings.Repeat("-", 33) },
		"least 0":         func(e *api.Endpoint) { e.Least = 0 },
		"least and most":  func(e *api.Endpoint) { e.Least = 4 },
		"most":            func(e *api.Endpoint) { e.Most = 5 },
		"suite 0":         func(e *api.Endpoint) { e.Suites = []int{1, 0} },
		"suite 17":        func(e *api.Endpoint) { e.Suites = []int{17} },
		"suites twice":    func(e *api.Endpoint) { e.Suites = []int{1, 2, 1} },
		"five identities": func(e *api.Endpoint) { e.Identities = slices.Repeat(e.Identities[:1], 5) },
		"no key":          func(e *api.Endpoint) { e.Identities[1].Key.Bits = 5 },
		"a hash":          func(e *api.Endpoint) { e.Identities[1].Key.Alg = api.MD5 },
		"key id":          func(e *api.Endpoint) { e.Identities[1].KeyId = -1 },
		"great key id":    func(e *api.Endpoint) { e.Identities[1].KeyId = api.MaxKey + 1 },
		"nine":            func(e *api.Endpoint) { e.Identities[0].Chain = nine },
		"a certificate":   func(e *api.Endpoint) { e.Identities[0].Chain[0].From = -1 },
		"another key":     func(e *api.Endpoint) { e.Identities[0].Key.Bits = 4096 },
		"another key id":  func(e *api.Endpoint) { e.Identities[0].KeyId++ },
		"17 anchors":      func(e *api.Endpoint) { e.Anchors = []int{0, 1, 2, 3, 4, 5, 6, 7, 8, 9, 10, 11, 12, 13, 14, 15, 16} },
		"anchors":         func(e *api.Endpoint) { e.Anchors = []int{2, 1} },
		"anchors twice":   func(e *api.Endpoint) { e.Anchors = []int{1, 1} },
		"anchor -1":       func(e *api.Endpoint) { e.Anchors = []int{-1, 1} },
		"a great anchor":  func(e *api.Endpoint) { e.Anchors = []int{1, api.MaxKey + 1} },
		"hashes descend":  func(e *api.Endpoint) { e.Hashes = []int{3, 2} },
		"hashes twice":    func(e *api.Endpoint) { e.Hashes = []int{3, 3} },
		"no hash":         func(e *api.Endpoint) { e.Hashes = []int{3, 5} },
		"hash 0":          func(e *api.Endpoint) { e.Hashes = []int{0} },
	}
}

func TestSame(t *testing.T) { // P9.1
	for name, f := range map[string]func(e *api.Endpoint){
		"name":       func(e *api.Endpoint) { e.Name = "x" },
		"least":      func(e *api.Endpoint) { e.Least++ },
		"most":       func(e *api.Endpoint) { e.Most++ },
		"suites":     func(e *api.Endpoint) { e.Suites[0]++ },
		"order":      func(e *api.Endpoint) { e.OwnOrder = false },
		"identities": func(e *api.Endpoint) { e.Identities = e.Identities[:1] },
		"key":        func(e *api.Endpoint) { e.Identities[0].Key.Bits++ },
		"key id":     func(e *api.Endpoint) { e.Identities[0].KeyId++ },
		"chain":      func(e *api.Endpoint) { e.Identities[0].Chain[0].Serial++ },
		"anchors":    func(e *api.Endpoint) { e.Anchors[1]++ },
		"hashes":     func(e *api.Endpoint) { e.Hashes = nil },
		"fallback":   func(e *api.Endpoint) { e.Fallback = false },
	} {
		if e := web(f); endpoint.Same(e, web(nothing)) || !endpoint.Same(e, e) {
			t.Error(name)
		}
	}
	if !endpoint.Same(api.Endpoint{}, api.Endpoint{Suites: []int{}, Identities: []api.Identity{}}) {
		t.Error("empty")
	}
}

// bare returns what an endpoint is of which nothing is said.
func bare(f func(*api.Endpoint)) api.Endpoint {
	e := api.Endpoint{Name: "web", Least: 1, Most: 4, Suites: []int{1, 2, 3, 4, 5, 6, 7, 8, 9, 10, 11, 12, 13, 14, 15, 16}}
	f(&e)
	return e
}

// read reads a text in both dialects: lines of settings, and the same lines as statements.
func read(t *testing.T, lines ...string) (api.Endpoint, int, api.Errno) {
	t.Helper()
	s, _, e := settings.Parse("[web]\n" + strings.Join(lines, "\n"))
	b := "server web {\n"
	for _, line := range lines {
		b += strings.Replace(strings.Replace(line, "suites = ", "suites \"", 1), " = ", " ", 1)
		if strings.HasPrefix(line, "suites") {
			b += `"`
		}
		b += ";\n"
	}
	l, _, f := blocks.Parse(b + "}")
	if e != api.OK || f != api.OK {
		t.Fatalf("%q: %v, %v", lines, e, f)
	}
	x, n, e := endpoint.FromSettings(s, "web", store())
	y, m, f := endpoint.FromBlocks(l, "web", store())
	if !endpoint.Same(x, y) || n != m || e != f {
		t.Errorf("%q: %v, %d, %v; %v, %d, %v", lines, x, n, e, y, m, f)
	}
	return x, n, e
}

func TestRead(t *testing.T) { // P9.2
	ids := web(nothing).Identities
	for name, x := range map[string]struct {
		lines []string
		f     func(*api.Endpoint)
	}{
		"example":  {[]string{"most = 3", "suites = high:!rsa"}, func(e *api.Endpoint) { e.Most, e.Suites = 3, []int{9, 11, 14, 15, 16} }},
		"least":    {[]string{"least = 4"}, func(e *api.Endpoint) { e.Least = 4 }},
		"order":    {[]string{"order = own"}, func(e *api.Endpoint) { e.OwnOrder = true }},
		"client":   {[]string{"order = client"}, nothing},
		"fallback": {[]string{"fallback = yes"}, func(e *api.Endpoint) { e.Fallback = true }},
		"no":       {[]string{"fallback = no"}, nothing},
		"keys":     {[]string{"keys = b a"}, func(e *api.Endpoint) { e.Identities = []api.Identity{ids[1], ids[0]} }},
		"four":     {[]string{"keys = a a  a   a"}, func(e *api.Endpoint) { e.Identities = slices.Repeat(ids[:1], 4) }},
		"anchors":  {[]string{"anchors = 7 2147483648 0"}, func(e *api.Endpoint) { e.Anchors = []int{0, 7, api.MaxKey} }},
		"sixteen":  {[]string{"anchors = 15 14 13 12 11 10 9 8 7 6 5 4 3 2 1 0"}, func(e *api.Endpoint) { e.Anchors = []int{0, 1, 2, 3, 4, 5, 6, 7, 8, 9, 10, 11, 12, 13, 14, 15} }},
		"hashes":   {[]string{"hashes = sha384 md5"}, func(e *api.Endpoint) { e.Hashes = []int{1, 4} }},
		"none":     {[]string{"hashes = ", "anchors = ", "keys = "}, nothing},
	} {
		if e, n, f := read(t, x.lines...); f != api.OK || n != 0 || !endpoint.Same(e, bare(x.f)) {
			t.Errorf("%s: %v, %d, %v", name, e, n, f)
		}
	}
}

func TestValues(t *testing.T) { // P9.2: values that are not permitted
	for _, line := range []string{"least = 0", "least = 5", "most = 01", "most = x", "most = 1x", "suites = x", "suites = all:", "order = Own", "order = yes", "keys = c", "keys = a c", "keys = a a a a a", "anchors = 07", "anchors = -1", "anchors = 2147483649", "anchors = 1 1", "anchors = x", "anchors = 1000000000000000", "anchors = 0 1 2 3 4 5 6 7 8 9 10 11 12 13 14 15 16", "hashes = rsa", "hashes = md5 md5", "hashes = x", "hashes = md5-0", "fallback = 1", "fallback = own"} {
		other := "hashes = sha256"
		if strings.HasPrefix(line, "hashes") {
			other = "order = own"
		}
		if e, n, f := read(t, other, line); f != api.ErrValue || n != 3 || e.Name != "" {
			t.Errorf("%q: %d, %v", line, n, f)
		}
	}
	if e, n, f := read(t, "least = 3", "most = 2"); f != api.ErrEndpoint || n != 0 || e.Name != "" {
		t.Errorf("%d, %v", n, f)
	}
	if _, n, f := read(t, "least = 0", "colour = red", "size = 1"); f != api.ErrWord || n != 3 {
		t.Errorf("%d, %v", n, f)
	}
}

func TestSettings(t *testing.T) { // P9.2
	from := func(text, name string) (api.Endpoint, int, api.Errno) {
		l, _, e := settings.Parse(text)
		if e != api.OK {
			t.Fatalf("%q: %v", text, e)
		}
		return endpoint.FromSettings(l, name, store())
	}
	if e, n, f := from("[web]\nmost = 9\nmost = 2\n[x]\nleast=7\n[web]\nmost = 3", "web"); f != api.OK || n != 0 || !endpoint.Same(e, bare(func(e *api.Endpoint) { e.Most = 3 })) {
		t.Errorf("%v, %d, %v", e, n, f)
	}
	for text, want := range map[string]struct {
		n int
		e api.Errno
	}{"": {0, api.ErrNone}, "most = 1": {0, api.ErrNone}, "[web]": {0, api.ErrNone}, "[we]\nmost=1": {0, api.ErrNone}, "[web]\nmost = 1\nMost = 2": {3, api.ErrWord}, "[web]\nleast = 0\nmost = 0\nleast = 1": {3, api.ErrValue}, "[web]\nmost = 0\nleast = 0\nmost = 0": {3, api.ErrValue}, "[web]\nx = 1": {2, api.ErrWord}, "[web]\nanchors = 1\t2": {2, api.ErrValue}} {
		if _, n, f := from(text, "web"); n != want.n || f != want.e {
			t.Errorf("%q: %d, %v", text, n, f)
		}
	}
	bad := store()
	bad[0].Alias = "z"
	good := []api.Setting{{Section: "web", Name: "most", Value: "1"}, {Section: "a b", Name: "most", Value: "1"}}
	if e, _, f := endpoint.FromSettings(good, "a b", bad); f != api.ErrName || !reflect.DeepEqual(e, api.Endpoint{}) {
		t.Error(f)
	}
	if _, _, f := endpoint.FromSettings(nil, "web", bad); f != api.ErrKeystore {
		t.Error(f)
	}
	if _, _, f := endpoint.FromSettings(good, "web", nil); f != api.OK {
		t.Error(f)
	}
}

func TestEmptyValues(t *testing.T) { // P9.2: an empty value is a list without words (8), but neither a number nor one of two words
	none := bare(func(e *api.Endpoint) { e.Suites = nil })
	for name, l := range map[string][]api.Setting{
		"alone":       {{Section: "web", Name: "suites"}},
		"with a line": {{Section: "web", Name: "suites", Line: 2}},
		"the last":    {{Section: "web", Name: "suites", Value: "low", Line: 2}, {Section: "web", Name: "suites", Line: 3}},
		"behind none": {{Section: "web", Name: "suites", Value: "x", Line: 2}, {Section: "web", Name: "suites", Line: 3}},
	} {
		if e, n, f := endpoint.FromSettings(l, "web", nil); f != api.OK || n != 0 || !endpoint.Same(e, none) {
			t.Errorf("%s: %v, %d, %v", name, e, n, f)
		}
	}
	if e, n, f := read(t, "suites = "); f != api.OK || n != 0 || !endpoint.Same(e, none) {
		t.Errorf("%v, %d, %v", e, n, f)
	}
	for _, word := range []string{"least", "most", "order", "fallback"} {
		l := []api.Setting{{Section: "web", Name: "suites", Line: 2}, {Section: "web", Name: word, Line: 3}}
		if e, n, f := endpoint.FromSettings(l, "web", nil); f != api.ErrValue || n != 3 || !reflect.DeepEqual(e, api.Endpoint{}) {
			t.Errorf("%s: %v, %d, %v", word, e, n, f)
		}
		b := []api.Block{{Words: []string{"server", "web"}, Open: true, Within: []api.Block{{Words: []string{word, ""}, Line: 3}}}}
		if e, n, f := endpoint.FromBlocks(b, "web", nil); f != api.ErrValue || n != 3 || !reflect.DeepEqual(e, api.Endpoint{}) {
			t.Errorf("%s: %v, %d, %v", word, e, n, f)
		}
	}
	// An empty value that does not count says nothing.
	l := []api.Setting{{Section: "web", Name: "suites", Line: 2}, {Section: "web", Name: "suites", Value: "rsa-aes128-sha", Line: 3}}
	if e, n, f := endpoint.FromSettings(l, "web", nil); f != api.OK || n != 0 || len(e.Suites) != 1 {
		t.Errorf("%v, %d, %v", e, n, f)
	}
}

func TestBlocks(t *testing.T) { // P9.2
	from := func(text, name string, store []api.Entry) (api.Endpoint, int, api.Errno) {
		l, _, e := blocks.Parse(text)
		if e != api.OK {
			t.Fatalf("%q: %v", text, e)
		}
		return endpoint.FromBlocks(l, name, store)
	}
	for text, want := range map[string]int{"server web { }": 4, "server web; server x {most 1;} server web {most 3;} server web {most 2;}": 3, "server web x {most 1;} server web {most 2;}": 2, "web {most 1;} server {most 2;} x web {} server \"web\" {most 3;}": 3} {
		if e, n, f := from(text, "web", store()); f != api.OK || n != 0 || e.Most != want {
			t.Errorf("%q: %v, %d, %v", text, e, n, f)
		}
	}
	for text, want := range map[string]struct {
		n int
		e api.Errno
	}{
		"":                                    {0, api.ErrNone},
		"server web;":                         {0, api.ErrNone},
		"a { server web {} }":                 {0, api.ErrNone},
		"server web {\nmost 1;\nmost {}\nx;}": {3, api.ErrWord},
		"server web {\nmost 1;\nmost 1;\nx;}": {4, api.ErrWord},
		"server web {\nmost 0;\nleast 1;\nmost 1;\nmost;}": {4, api.ErrTwice},
		"server web {\nkeys;\nmost;\nleast 1 2;}":          {3, api.ErrValue},
		"server web {\nleast 1 2;}":                        {2, api.ErrValue},
		"server web {\nsuites;}":                           {2, api.ErrValue},
		"server web {\nsuites all rc4;}":                   {2, api.ErrValue},
		"server web {\norder;}":                            {2, api.ErrValue},
		"server web {\nfallback yes yes;}":                 {2, api.ErrValue},
		"server web {\nkeys \"a b\";}":                     {2, api.ErrValue},
		"server web {\nanchors \"\";}":                     {2, api.ErrValue},
	} {
		if e, n, f := from(text, "web", store()); n != want.n || f != want.e || !reflect.DeepEqual(e, api.Endpoint{}) {
			t.Errorf("%q: %d, %v", text, n, f)
		}
	}
	bad := store()
	bad[0].Alias = "z"
	if _, _, f := from("", "a b", bad); f != api.ErrName {
		t.Error(f)
	}
	if _, _, f := from("", "web", bad); f != api.ErrKeystore {
		t.Error(f)
	}
	if _, _, f := endpoint.FromBlocks([]api.Block{{Words: []string{"server", "web"}, Open: true, Within: []api.Block{{Line: 5}}}}, "web", nil); f != api.ErrWord {
		t.Error(f)
	}
	if e, _, f := from("server web { suites \"\"; }", "web", nil); f != api.OK || len(e.Suites) > 0 {
		t.Errorf("%v, %v", e, f)
	}
}

func TestWrite(t *testing.T) { // P9.3
	l, e := endpoint.ToSettings(web(nothing), []string{"a", "b"})
	s, f := settings.Print(l)
	if want := "[web]\nleast = 2\nmost = 3\nsuites = ecdhe-rsa-aes128-gcm:ecdhe-rsa-aes128-sha:chacha+v4\norder = own\nkeys = a b\nanchors = 0 1000 2147483648\nhashes = sha1 sha256\nfallback = yes\n"; e != api.OK || f != api.OK || s != want {
		t.Errorf("%q, %v", s, e)
	}
	b, e := endpoint.ToBlocks(bare(nothing), nil)
	s, f = blocks.Print(b)
	if !strings.HasPrefix(s, "server web {\n  least 1;\n  most 4;\n  suites rsa-rc4-md5:") || !strings.HasSuffix(s, ";\n  order client;\n  fallback no;\n}\n") || e != api.OK || f != api.OK {
		t.Errorf("%q, %v", s, e)
	}
	none := bare(func(e *api.Endpoint) { e.Suites = nil })
	if b, e := endpoint.ToBlocks(none, nil); e != api.OK || !slices.Equal(b[0].Within[2].Words, []string{"suites", ""}) {
		t.Errorf("%v, %v", b, e)
	}
	if l, e := endpoint.ToSettings(none, nil); e != api.ErrValue || len(l) > 0 {
		t.Errorf("%v, %v", l, e)
	}
	for _, aliases := range [][]string{nil, {"a"}, {"a", "b", "c"}, {"a", ""}, {"a b", "c"}, {"a", strings.Repeat("x", 33)}} {
		if l, e := endpoint.ToSettings(web(nothing), aliases); e != api.ErrValue || len(l) > 0 {
			t.Errorf("%q: %v", aliases, e)
		}
		if l, e := endpoint.ToBlocks(web(nothing), aliases); e != api.ErrValue || len(l) > 0 {
			t.Errorf("%q: %v", aliases, e)
		}
	}
}

func TestReadBack(t *testing.T) { // consequence: what is written is read, and both dialects say the same
	for name, e := range map[string]api.Endpoint{"web": web(nothing), "bare": bare(nothing), "twice": web(func(e *api.Endpoint) { e.Identities[1] = e.Identities[0] })} {
		aliases := []string{"a", "b"}[:len(e.Identities)]
		if name == "twice" {
			aliases[1] = "a"
		}
		l, f := endpoint.ToSettings(e, aliases)
		if x, n, g := endpoint.FromSettings(l, "web", store()); f != api.OK || g != api.OK || n != 0 || !endpoint.Same(e, x) {
			t.Errorf("%s: %v, %d, %v", name, x, n, g)
		}
		b, f := endpoint.ToBlocks(e, aliases)
		if x, n, g := endpoint.FromBlocks(b, "web", store()); f != api.OK || g != api.OK || n != 0 || !endpoint.Same(e, x) {
			t.Errorf("%s: %v, %d, %v", name, x, n, g)
		}
		for _, s := range l {
			if s.Line != 0 {
				t.Error("a line")
			}
		}
	}
}

func TestMemory(t *testing.T) { // R3
	e, aliases, keys := web(nothing), []string{"a", "b"}, store()
	l, _ := endpoint.ToSettings(e, aliases)
	b, _ := endpoint.ToBlocks(e, aliases)
	apart(t, "ToSettings", func() []api.Setting { l, _ := endpoint.ToSettings(e, aliases); return l }, e, aliases)
	apart(t, "ToBlocks", func() []api.Block { l, _ := endpoint.ToBlocks(e, aliases); return l }, e, aliases)
	apart(t, "FromSettings", func() api.Endpoint { e, _, _ := endpoint.FromSettings(l, "web", keys); return e }, l, keys)
	apart(t, "FromBlocks", func() api.Endpoint { e, _, _ := endpoint.FromBlocks(b, "web", keys); return e }, b, keys)
}
