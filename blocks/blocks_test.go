package blocks_test

import (
	"cipherplan/api"
	"cipherplan/blocks"
	"math/rand"
	"reflect"
	"strings"
	"testing"
)

func leaf(line int, words ...string) api.Block { return api.Block{Words: words, Line: line} }

func open(line int, words []string, within ...api.Block) api.Block {
	return api.Block{Words: words, Open: true, Within: within, Line: line}
}

func w(words ...string) []string { return words }

// equal compares all fields; nil and empty slices are equal.
func equal(a, b []api.Block) bool {
	if len(a) != len(b) {
		return false
	}
	for i := range a {
		if !reflect.DeepEqual(append(w(), a[i].Words...), append(w(), b[i].Words...)) || a[i].Open != b[i].Open || a[i].Line != b[i].Line || !equal(a[i].Within, b[i].Within) {
			return false
		}
	}
	return true
}

// deep returns statements of so many levels.
func deep(n int) []api.Block {
	l := []api.Block{leaf(1, "a")}
	for range n - 1 {
		l = []api.Block{open(1, w("a"), l...)}
	}
	return l
}

func nested(n int) string { return strings.Repeat("a{", n-1) + "a;" + strings.Repeat("}", n-1) }

func TestParse(t *testing.T) { // P7.1
	words := strings.TrimSpace(strings.Repeat("w ", 64))
	for text, want := range map[string][]api.Block{
		"":                                    nil,
		" \t\n# x\n":                          nil,
		"#":                                   nil,
		"a;":                                  {leaf(1, "a")},
		"\n a b ;":                            {leaf(2, "a", "b")},
		"a b{c \"d e\";}":                     {open(1, w("a", "b"), leaf(1, "c", "d e"))},
		"a{}":                                 {open(1, w("a"))},
		"a{}b;c{d;}":                          {open(1, w("a")), leaf(1, "b"), open(1, w("c"), leaf(1, "d"))},
		"a\n\"b\"\t\"c\";":                    {leaf(1, "a", "b", "c")},
		"a \"\" \" \";":                       {leaf(1, "a", "", " ")},
		`a "\"\\" "{;}#";`:                    {leaf(1, "a", `"\`, "{;}#")},
		"a \"\t\";":                           {leaf(1, "a", "\t")},
		"aZ09-_./:*@+! b;":                    {leaf(1, "aZ09-_./:*@+!", "b")},
		"a # x ; \" { \\ $\n b;":              {leaf(1, "a", "b")},
		"a#\n\"b\";":                          {leaf(1, "a", "b")},
		"a{\nb;\n\nc\nd;\n}\ne;":              {open(1, w("a"), leaf(2, "b"), leaf(4, "c", "d")), leaf(7, "e")},
		nested(16):                            deep(16),
		words + ";":                           {leaf(1, strings.Fields(words)...)},
		strings.Repeat("\n", 200):             nil,
		"a" + strings.Repeat("\n", 200) + ";": {leaf(1, "a")},
		strings.Repeat("a", 8191) + ";":       {leaf(1, strings.Repeat("a", 8191))},
	} {
		l, n, e := blocks.Parse(text)
		if e != api.OK || n != 0 || !equal(l, want) {
			t.Errorf("%q: %v, %d, %v", text, l, n, e)
		}
	}
}

func TestParseErrors(t *testing.T) { // P7.1
	for text, want := range map[string]int{
		";":                               1,
		"{":                               1,
		"}":                               1,
		"a;\n}":                           2,
		"a;\n\n{}":                        3,
		"a\n{\n;}":                        3,
		"\"a\";":                          1,
		"a{\n\"b\";}":                     2,
		"a":                               1,
		"a\n\n":                           3,
		"a{":                              1,
		"a{\nb;\n":                        3,
		"a{\nb":                           2,
		"a{b}":                            1,
		"a\n\"b":                          2,
		"a\n\"b\nc\";":                    2,
		"a \"b\\\nc\";":                   1,
		"a \"b\\n\";":                     1,
		"a \"b\\":                         1,
		"a\n\"b\"c;":                      2,
		"a\"b\";":                         1,
		"a \"b\"\"c\";":                   1,
		"a \"b\"#\n\"c\"\"d\";":           2,
		"a = b;":                          1,
		"a;\n$":                           2,
		"a \\;":                           1,
		"a\r;":                            1,
		"a \x00;":                         1,
		"a;\n\n\x7f":                      3,
		"a \"\x80\";":                     1,
		"a;\n# \x01\n;":                   2,
		";\n\x01":                         1,
		"a \"\x0b\n":                      1,
		strings.Repeat("a{", 4000):        1,
		strings.Repeat("a{\n", 20) + "}}": 21,
		nested(17) + "}":                  1,
		strings.Repeat("w ", 65):          1,
	} {
		l, n, e := blocks.Parse(text)
		if e != api.ErrForm || n != want || len(l) > 0 {
			t.Errorf("%q: %v, %d, %v", text, l, n, e)
		}
	}
	for name, text := range map[string]string{"17 levels": nested(17), "17 empty": strings.Repeat("a{", 17) + strings.Repeat("}", 17), "65 words": strings.Repeat("w ", 65) + ";", "within": "a{" + strings.Repeat("w ", 65) + ";}", "8193 bytes": strings.Repeat("\x00", 8193), "201 lines": ";" + strings.Repeat("\n", 201)} {
		if l, n, e := blocks.Parse(text); e != api.ErrLimit || n != 0 || len(l) > 0 {
			t.Errorf("%s: %v, %d, %v", name, l, n, e)
		}
	}
}

// goesOn reports whether something can be put behind a text so that it is right.
func goesOn(text string) bool {
	for _, word := range []string{"", "\n", "\"", "\"\""} {
		for _, end := range []string{"", ";", " a;", "a;"} {
			for k := range 8 {
				if _, _, e := blocks.Parse(text + word + end + strings.Repeat("}", k)); e == api.OK {
					return true
				}
			}
		}
	}
	return false
}

func TestFirstError(t *testing.T) { // P7.1: the line is that from which on nothing makes the text right any more
	r := rand.New(rand.NewSource(5))
	parts := []string{"a", "b", "\"", "\\", ";", ";", "{", "}", " ", "\n", "#", "$"}
	for range 10000 {
		text := ""
		for range r.Intn(14) {
			text += parts[r.Intn(len(parts))]
		}
		_, n, e := blocks.Parse(text)
		if e == api.OK {
			continue
		}
		want := strings.Count(text, "\n") + 1
		for i := range text {
			if !goesOn(text[:i+1]) {
				want = strings.Count(text[:i], "\n") + 1
				break
			}
		}
		if e != api.ErrForm || n != want {
			t.Fatalf("%q: %d, %v, not %d", text, n, e, want)
		}
	}
}

func TestPrint(t *testing.T) { // P7.2
	many := func(n int) []api.Block {
		var l []api.Block
		for range n {
			l = append(l, leaf(0, "a"))
		}
		return l
	}
	for name, x := range map[string]struct {
		l    []api.Block
		want string
	}{
		"none":       {nil, ""},
		"example":    {[]api.Block{open(7, w("a", "b"), leaf(-1, "c", "d e"))}, "a b {\n  c \"d e\";\n}\n"},
		"empty":      {[]api.Block{open(0, w("a"))}, "a {\n}\n"},
		"quotes":     {[]api.Block{leaf(0, "a", "", `"\`, "b=", "\t", "#", "x")}, "a \"\" \"\\\"\\\\\" \"b=\" \"\t\" \"#\" x;\n"},
		"two levels": {[]api.Block{open(0, w("a"), open(0, w("b"), leaf(0, "c")), leaf(0, "d")), leaf(0, "e")}, "a {\n  b {\n    c;\n  }\n  d;\n}\ne;\n"},
		"200 lines":  {many(200), strings.Repeat("a;\n", 200)},
		"8192 bytes": {[]api.Block{leaf(0, strings.Repeat("a", 8190))}, strings.Repeat("a", 8190) + ";\n"},
	} {
		if s, e := blocks.Print(x.l); e != api.OK || s != x.want {
			t.Errorf("%s: %q, %v", name, s, e)
		}
	}
	for name, l := range map[string][]api.Block{"201 lines": many(201), "8193 bytes": {leaf(0, strings.Repeat("a", 8191))}, "braces": {open(0, w("a"), many(199)...)}} {
		if s, e := blocks.Print(l); e != api.ErrLimit || s != "" {
			t.Errorf("%s: %q, %v", name, s, e)
		}
		if e := blocks.Check(l); e != api.OK {
			t.Errorf("%s: %v", name, e)
		}
	}
}

func TestCheck(t *testing.T) { // P7.2
	long := strings.Fields(strings.Repeat("w ", 65))
	for name, x := range map[string]struct {
		l    []api.Block
		want api.Errno
	}{
		"none":              {nil, api.OK},
		"16 levels":         {deep(16), api.OK},
		"64 words":          {[]api.Block{leaf(0, long[:64]...)}, api.OK},
		"17 levels":         {deep(17), api.ErrLimit},
		"65 words":          {[]api.Block{leaf(0, long...)}, api.ErrLimit},
		"no word":           {[]api.Block{leaf(0)}, api.ErrForm},
		"an empty word":     {[]api.Block{leaf(0, "")}, api.ErrForm},
		"a quoted word":     {[]api.Block{leaf(0, "a b")}, api.ErrForm},
		"a line end":        {[]api.Block{leaf(0, "a", "\n")}, api.ErrForm},
		"127":               {[]api.Block{leaf(0, "a", "\x7f")}, api.ErrForm},
		"128":               {[]api.Block{leaf(0, "a", "é")}, api.ErrForm},
		"31":                {[]api.Block{leaf(0, "a", "\x1f")}, api.ErrForm},
		"not open":          {[]api.Block{{Words: w("a"), Within: []api.Block{leaf(0, "b")}}}, api.ErrForm},
		"within":            {[]api.Block{leaf(0, "a"), open(0, w("a"), leaf(0, "b"), leaf(0, "?"))}, api.ErrForm},
		"form before limit": {append(deep(20), leaf(0)), api.ErrForm},
		"deep form":         {[]api.Block{open(0, w("a"), open(0, long, open(0, w(""))))}, api.ErrForm},
	} {
		if e := blocks.Check(x.l); e != x.want {
			t.Errorf("%s: %v", name, e)
		}
		if s, e := blocks.Print(x.l); e != x.want || e != api.OK && s != "" {
			t.Errorf("%s: %q, %v", name, s, e)
		}
	}
}

func TestFind(t *testing.T) { // P7.3
	l := []api.Block{leaf(1, "a", "1"), open(2, w("b"), leaf(3, "a", "2")), open(4, w("a"), leaf(5, "c")), leaf(6)}
	if f := blocks.Find(l, "a"); !equal(f, []api.Block{l[0], l[2]}) {
		t.Errorf("%v", f)
	}
	if f := blocks.Find(l, "c"); len(f) > 0 {
		t.Errorf("%v", f)
	}
	if f := blocks.Find(l, ""); len(f) > 0 {
		t.Errorf("%v", f)
	}
}

func TestDepth(t *testing.T) { // P7.3
	for n := range 40 {
		l := deep(n + 1)
		if d := blocks.Depth(l); d != n+1 {
			t.Errorf("%d: %d", n+1, d)
		}
	}
	if blocks.Depth(nil) != 0 || blocks.Depth([]api.Block{open(0, nil)}) != 1 || blocks.Depth([]api.Block{leaf(0), open(0, w("a"), deep(5)...), leaf(0)}) != 6 {
		t.Error("depth")
	}
}

func TestSame(t *testing.T) { // P7.3
	a := []api.Block{open(1, w("a", "b"), leaf(2, "c"), leaf(2, "c"))}
	for name, b := range map[string][]api.Block{
		"less":        nil,
		"more":        append(a[:1:1], a...),
		"a word":      {open(1, w("a", "c"), leaf(2, "c"), leaf(2, "c"))},
		"words":       {open(1, w("a"), leaf(2, "c"), leaf(2, "c"))},
		"open":        {{Words: w("a", "b"), Within: a[0].Within}},
		"within":      {open(1, w("a", "b"), leaf(2, "c"), leaf(2, "d"))},
		"less within": {open(1, w("a", "b"), leaf(2, "c"))},
	} {
		if blocks.Same(a, b) || blocks.Same(b, a) || !blocks.Same(b, b) {
			t.Error(name)
		}
	}
	if blocks.Same(a, []api.Block{open(5, w("a", "b"), leaf(9, "c"), open(2, w("c")))}) || !blocks.Same(a, []api.Block{open(5, w("a", "b"), leaf(9, "c"), leaf(8, "c"))}) || !blocks.Same(nil, []api.Block{}) {
		t.Error("lines")
	}
}

// random returns statements of some levels.
func random(r *rand.Rand, levels int) []api.Block {
	var l []api.Block
	for range r.Intn(3) {
		b := leaf(0, "a"+string(rune('0'+r.Intn(10))))
		for range r.Intn(3) {
			word := strings.Map(func(rune) rune { return rune(32 + r.Intn(95)) }, strings.Repeat("x", r.Intn(4)))
			b.Words = append(b.Words, word)
		}
		if r.Intn(2) == 0 && levels > 1 {
			b.Open, b.Within = true, random(r, levels-1)
		}
		l = append(l, b)
	}
	return l
}

func TestReadBack(t *testing.T) { // consequences
	r := rand.New(rand.NewSource(1))
	for range 3000 {
		l := random(r, 5)
		s, e := blocks.Print(l)
		m, _, f := blocks.Parse(s)
		if e == api.ErrLimit {
			continue
		}
		again, _ := blocks.Print(m)
		if e != api.OK || f != api.OK || !blocks.Same(l, m) || again != s {
			t.Fatalf("%v: %q, %v, %v", l, s, e, f)
		}
	}
}

func TestEndless(t *testing.T) { // R1: statements within themselves, shared, or very deep
	l := []api.Block{open(0, w("a")), open(0, w("a"))}
	l[0].Within, l[1].Within = l, l
	if e := blocks.Check(l); e != api.ErrLimit {
		t.Error(e)
	}
	if s, e := blocks.Print(l); e != api.ErrLimit || s != "" {
		t.Error(e)
	}
	blocks.Find(l, "a")
	blocks.Depth(l)
	blocks.Same(l, l)
	blocks.Same(l, []api.Block{open(0, w("a"), l...), open(0, w("a"), l...)})
	shared := []api.Block{open(0, w("a"))}
	for range 100 {
		shared = []api.Block{open(0, w("a"), shared...), {Words: w("a"), Open: true, Within: shared}, {Words: w("a"), Open: true, Within: shared}}
	}
	blocks.Find(shared, "a")
	if d := blocks.Depth(shared); d != 101 {
		t.Error(d)
	}
	if !blocks.Same(shared, shared) || blocks.Check(shared) != api.ErrLimit {
		t.Error("shared")
	}
	twice := []api.Block{open(0, w("a"), leaf(0, "?")), {Words: w("a"), Open: true, Within: shared}, {Words: w("a"), Open: true, Within: shared}}
	if e := blocks.Check(twice); e != api.ErrForm {
		t.Error(e)
	}
	far := deep(200000)
	if blocks.Depth(far) != 200000 || blocks.Check(far) != api.ErrLimit || !blocks.Same(far, far) || len(blocks.Find(far, "a")) != 1 {
		t.Error("deep")
	}
	wide := []api.Block{open(0, w("a"))}
	for range 15 {
		wide = []api.Block{{Words: w("a"), Open: true, Within: wide}, {Words: w("a"), Open: true, Within: wide}, {Words: w("a"), Open: true, Within: wide}}
	}
	if s, e := blocks.Print(wide); e != api.ErrLimit || s != "" || blocks.Check(wide) != api.OK {
		t.Error(e)
	}
}

func TestMemory(t *testing.T) { // R3
	l := []api.Block{open(1, w("a", "b"), leaf(2, "a", "x"), leaf(3, "c", "y"))}
	l = append(l, api.Block{Words: l[0].Words, Open: true, Within: l[0].Within})
	apart(t, "Find", func() []api.Block { return blocks.Find(l, "a") }, l)
	s, _ := blocks.Print(l)
	apart(t, "Parse", func() []api.Block { m, _, _ := blocks.Parse(s); return m }, l)
	apart(t, "Print", func() string { s, _ := blocks.Print(l); return s }, l)
}
