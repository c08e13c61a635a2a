package settings_test

import (
	"cipherplan/api"
	"cipherplan/settings"
	"math/rand"
	"slices"
	"strings"
	"testing"
)

func set(section, name, value string, line int) api.Setting {
	return api.Setting{Section: section, Name: name, Value: value, Line: line}
}

func TestParse(t *testing.T) { // P6.1
	long := strings.Repeat("n", 32)
	for text, want := range map[string][]api.Setting{
		"":                                  nil,
		"\n":                                nil,
		"\n\n \t \n":                        nil,
		"x = 1":                             {set("", "x", "1", 1)},
		"x=1\n":                             {set("", "x", "1", 1)},
		"\t x \t=\t 1 2 \t\n":               {set("", "x", "1 2", 1)},
		"x=":                                {set("", "x", "", 1)},
		"x = = y":                           {set("", "x", "= y", 1)},
		"x = a\tb":                          {set("", "x", "a\tb", 1)},
		"# x = 1\n; y\n  #\nx = #1 ;2":      {set("", "x", "#1 ;2", 4)},
		"[a]\nx = 1 \\\n  2":                {set("a", "x", "1 2", 2)},
		"[a]\nx = 1 \\\n  2\ny = 3":         {set("a", "x", "1 2", 2), set("a", "y", "3", 4)},
		"x = 1\\\n\\\n\\ \n 2":              {set("", "x", "12", 1)},
		"\\\n\\\n\nx = 1":                   {set("", "x", "1", 4)},
		"x\\\n = 1":                         {set("", "x", "1", 1)},
		"x = 1\\\n\ny = 2":                  {set("", "x", "1", 1), set("", "y", "2", 3)},
		"x = a\\b":                          {set("", "x", "a\\b", 1)},
		"x = 1 \\  \n2":                     {set("", "x", "1 2", 1)},
		"x = a\\\\\n\nb":                    {set("", "x", "ab", 1)},
		"# c \\\nx = 1\ny = 2":              {set("", "y", "2", 3)},
		"[a\\\nb]\nx=1":                     {set("ab", "x", "1", 3)},
		"[ \ta \t]\nx = 1":                  {set("a", "x", "1", 2)},
		"[a]\nx=1\n[b]\nx=2\n[a]\nx=3":      {set("a", "x", "1", 2), set("b", "x", "2", 4), set("a", "x", "3", 6)},
		"[" + long + "]\n" + long + "=~!":   {set(long, long, "~!", 2)},
		"aZ9-_. = [x]":                      {set("", "aZ9-_.", "[x]", 1)},
		"[a]\n[b]\n":                        nil,
		strings.Repeat("\n", 200) + "x=1":   {set("", "x", "1", 201)},
		"x=" + strings.Repeat("v", 8190):    {set("", "x", strings.Repeat("v", 8190), 1)},
		"x = 1\n" + "y = 2\\\n3\\\n\nz = 1": {set("", "x", "1", 1), set("", "y", "23", 2), set("", "z", "1", 5)},
	} {
		l, n, e := settings.Parse(text)
		if e != api.OK || n != 0 || !slices.Equal(l, want) {
			t.Errorf("%q: %v, %d, %v", text, l, n, e)
		}
	}
}

func TestParseErrors(t *testing.T) { // P6.1
	for text, want := range map[string]int{
		"x":                                 1,
		"= 1":                               1,
		"x = 1\ny":                          2,
		"a b = 1":                           1,
		"a+ = 1":                            1,
		strings.Repeat("n", 33) + "= 1":     1,
		"[]":                                1,
		"[ ]":                               1,
		"[":                                 1,
		"]":                                 1,
		"[a":                                1,
		"[a b]":                             1,
		"[a] x":                             1,
		"[a]]":                              1,
		"[" + strings.Repeat("n", 33) + "]": 1,
		"x = \x00":                          1,
		"x = 1\r\n":                         1,
		"x = \x7f":                          1,
		"x = \xc3\xa9":                      1,
		"\n# \x01":                          2,
		"\n; \x80":                          2,
		"\x0b":                              1,
		"x = 1\\":                           1,
		"x = 1\\\n":                         1,
		"y = 1\nx = 1\\\n\\":                2,
		"\\":                                1,
		"# \\":                              1,
		"y = 1\n\nx = 1\\\n\x01\nz":         3,
		"x = 1\\\n2\nbad\n\x01":             3,
		"x = 1\\\\\n":                       1,
	} {
		l, n, e := settings.Parse(text)
		if e != api.ErrForm || n != want || len(l) > 0 {
			t.Errorf("%q: %v, %d, %v", text, l, n, e)
		}
	}
	for _, text := range []string{strings.Repeat("\n", 201), "x\n" + strings.Repeat("\n", 200), "x=" + strings.Repeat("v", 8191), strings.Repeat("\x00", 8193)} {
		if l, n, e := settings.Parse(text); e != api.ErrLimit || n != 0 || len(l) > 0 {
			t.Errorf("%d bytes: %d, %v", len(text), n, e)
		}
	}
}

func TestPrint(t *testing.T) { // P6.2
	lines := func(n int, section string) []api.Setting {
		return slices.Repeat([]api.Setting{set(section, "x", "", 0)}, n)
	}
	for name, x := range map[string]struct {
		l    []api.Setting
		want string
		e    api.Errno
	}{
		"none":               {nil, "", api.OK},
		"two":                {[]api.Setting{set("", "x", "1 2", 5), set("", "y", "", -1)}, "x = 1 2\ny = \n", api.OK},
		"sections":           {[]api.Setting{set("", "x", "1", 0), set("a", "x", "2", 0), set("a", "y", "3", 0), set("b", "x", "4", 0), set("a", "z", "5", 0)}, "x = 1\n[a]\nx = 2\ny = 3\n[b]\nx = 4\n[a]\nz = 5\n", api.OK},
		"no name":            {[]api.Setting{set("", "", "1", 0)}, "", api.ErrForm},
		"a name":             {[]api.Setting{set("", "x y", "1", 0)}, "", api.ErrForm},
		"a section":          {[]api.Setting{set("a b", "x", "1", 0)}, "", api.ErrForm},
		"a tab":              {[]api.Setting{set("", "x", "1\t2", 0)}, "", api.ErrForm},
		"a line end":         {[]api.Setting{set("", "x", "1\n2", 0)}, "", api.ErrForm},
		"127":                {[]api.Setting{set("", "x", "\x7f", 0)}, "", api.ErrForm},
		"begins with blank":  {[]api.Setting{set("", "x", " 1", 0)}, "", api.ErrForm},
		"ends with blank":    {[]api.Setting{set("", "x", "1 ", 0)}, "", api.ErrForm},
		"backslash":          {[]api.Setting{set("", "x", `1\`, 0)}, "", api.ErrForm},
		"a backslash within": {[]api.Setting{set("", "x", `\1`, 0)}, "x = \\1\n", api.OK},
		"order":              {[]api.Setting{set("a", "x", "1", 0), set("", "y", "1", 0)}, "", api.ErrOrder},
		"form before order":  {[]api.Setting{set("a", "x", "1", 0), set("", "y", "1", 0), set("", "y", " ", 0)}, "", api.ErrForm},
		"order before limit": {append(lines(300, "a"), set("", "y", "1", 0)), "", api.ErrOrder},
		"200":                {lines(200, ""), strings.Repeat("x = \n", 200), api.OK},
		"201":                {lines(201, ""), "", api.ErrLimit},
		"200 and a section":  {lines(200, "a"), "", api.ErrLimit},
		"8192 bytes":         {[]api.Setting{set("", "x", strings.Repeat("v", 8187), 0)}, "x = " + strings.Repeat("v", 8187) + "\n", api.OK},
		"8193 bytes":         {[]api.Setting{set("", "x", strings.Repeat("v", 8188), 0)}, "", api.ErrLimit},
	} {
		if s, e := settings.Print(x.l); s != x.want || e != x.e {
			t.Errorf("%s: %q, %v", name, s, e)
		}
	}
}

func TestGet(t *testing.T) { // P6.3
	l := []api.Setting{set("", "x", "1", 0), set("a", "x", "2", 0), set("b", "x", "3", 0), set("a", "x", "4", 0), set("a", "y", "", 0)}
	for key, want := range map[[2]string]string{{"", "x"}: "1", {"a", "x"}: "4", {"b", "x"}: "3", {"a", "y"}: "", {"b", "y"}: "-", {"c", "x"}: "-", {"", ""}: "-"} {
		v, ok := settings.Get(l, key[0], key[1])
		if ok != (want != "-") || ok && v != want || !ok && v != "" {
			t.Errorf("%v: %q, %v", key, v, ok)
		}
	}
	if s := settings.Sections(l); !slices.Equal(s, []string{"", "a", "b"}) {
		t.Errorf("%q", s)
	}
	if s := settings.Sections(l[1:3]); !slices.Equal(s, []string{"a", "b"}) || len(settings.Sections(nil)) > 0 {
		t.Errorf("%q", s)
	}
}

func TestSet(t *testing.T) { // P6.3
	l := []api.Setting{set("", "x", "1", 1), set("a", "x", "2", 3), set("b", "x", "3", 5), set("a", "x", "4", 7), set("c", "x", "5", 9)}
	for name, x := range map[string]struct {
		section, name string
		want          []api.Setting
	}{
		"the last one": {"a", "x", []api.Setting{l[0], l[1], l[2], set("a", "x", "new", 7), l[4]}},
		"at the front": {"", "x", []api.Setting{set("", "x", "new", 1), l[1], l[2], l[3], l[4]}},
		"behind":       {"a", "y", []api.Setting{l[0], l[1], l[2], l[3], set("a", "y", "new", 0), l[4]}},
		"first":        {"", "y", []api.Setting{l[0], set("", "y", "new", 0), l[1], l[2], l[3], l[4]}},
		"at the end":   {"d", "x", append(slices.Clone(l), set("d", "x", "new", 0))},
	} {
		got, e := settings.Set(l, x.section, x.name, "new")
		v, ok := settings.Get(got, x.section, x.name)
		if e != api.OK || !slices.Equal(got, x.want) || v != "new" || !ok {
			t.Errorf("%s: %v, %v", name, got, e)
		}
	}
	for _, s := range []api.Setting{set("", "", "", 0), set("", "a b", "", 0), set("a b", "x", "", 0), set("a", "x", " ", 0), set("a", "x", "\t", 0), set("a", "x", `\`, 0), set("a", "x", "\x80", 0)} {
		if got, e := settings.Set(l, s.Section, s.Name, s.Value); e != api.ErrForm || len(got) > 0 {
			t.Errorf("%v: %v, %v", s, got, e)
		}
	}
	if got, e := settings.Set(nil, "", "x", ""); e != api.OK || !slices.Equal(got, []api.Setting{set("", "x", "", 0)}) {
		t.Errorf("%v, %v", got, e)
	}
}

func TestReadBack(t *testing.T) { // consequence: Parse of Print has the same sections, names and values
	r := rand.New(rand.NewSource(1))
	for range 5000 {
		var l []api.Setting
		section := ""
		for i := range r.Intn(8) {
			if r.Intn(3) == 0 {
				section = string(rune('a' + r.Intn(3)))
			}
			value := strings.Trim(strings.Map(func(rune) rune { return rune(32 + r.Intn(95)) }, strings.Repeat("v", r.Intn(6))), " ")
			l = append(l, set(section, "n"+string(rune('0'+r.Intn(5))), strings.TrimRight(value, "\\ "), i))
		}
		text, e := settings.Print(l)
		m, _, f := settings.Parse(text)
		if e != api.OK || f != api.OK || len(m) != len(l) {
			t.Fatalf("%v: %v, %v", l, e, f)
		}
		for i := range m {
			m[i].Line = l[i].Line
		}
		if !slices.Equal(l, m) {
			t.Fatalf("%v, %v", l, m)
		}
	}
}

func TestMemory(t *testing.T) { // R3
	l := append(make([]api.Setting, 0, 10), set("a", "x", "1", 1), set("b", "x", "1", 1))
	for _, section := range []string{"a", "b", "c"} {
		for _, name := range []string{"x", "y"} {
			apart(t, "Set", func() []api.Setting { m, _ := settings.Set(l, section, name, "2"); return m }, l)
		}
	}
	apart(t, "Sections", func() []string { return settings.Sections(l) }, l)
}
