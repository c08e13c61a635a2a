package pattern_test

import (
	"bytes"
	"cipherplan/api"
	"cipherplan/pattern"
	"math/rand"
	"slices"
	"strings"
	"testing"
)

// uses returns different valid uses.
func uses() []api.Use {
	return []api.Use{{Alg: api.RC4, Bits: 128}, {Alg: api.MD5}, {Alg: api.RC4, Bits: 40}, {Alg: api.SHA1}, {Alg: api.MD5}}
}

// patterns returns patterns with texts as bytes.
func patterns(texts ...string) []api.Pattern {
	var p []api.Pattern
	for i, s := range texts {
		p = append(p, api.Pattern{Use: uses()[i%5], Bytes: []byte(s)})
	}
	return p
}

// all returns all hits, found one by one.
func all(p []api.Pattern, b []byte) []api.Hit {
	var l []api.Hit
	for at := range b {
		for i, x := range p {
			if bytes.HasPrefix(b[at:], x.Bytes) {
				l = append(l, api.Hit{Pattern: i, At: at})
			}
		}
	}
	return l
}

func TestFind(t *testing.T) { // P11.1
	for _, x := range []struct {
		p []api.Pattern
		b string
	}{
		{nil, "abc"},
		{patterns("a"), ""},
		{patterns("ab", "b", "ab", "bab", "c"), "ababab"},
		{patterns("he", "she", "his", "hers"), "ushershishe"},
		{patterns("aaa", "aa", "a"), "aaaaa"},
		{patterns("abcd", "bc", "c", "bcx"), "abcabcdbcx"},
		{patterns("\x00\xff", "\xff\x00"), "\x00\xff\x00\xff"},
	} {
		l, e := pattern.Find(x.p, []byte(x.b))
		if e != api.OK || !slices.Equal(l, all(x.p, []byte(x.b))) {
			t.Errorf("%v in %q: %v, %v", x.p, x.b, l, e)
		}
	}
}

func TestAtRandom(t *testing.T) { // P11.1, and First is the first one of Find
	r := rand.New(rand.NewSource(1))
	word := func(n int) string {
		return strings.Map(func(rune) rune { return rune('a' + r.Intn(2)) }, strings.Repeat("x", n))
	}
	for range 3000 {
		var texts []string
		for range r.Intn(8) {
			texts = append(texts, word(1+r.Intn(6)))
		}
		p, b := patterns(texts...), []byte(word(r.Intn(60)))
		want := all(p, b)
		l, e := pattern.Find(p, b)
		first, f := pattern.First(p, b)
		if e != api.OK || f != api.OK || !slices.Equal(l, want) || len(first) != len(p) {
			t.Fatalf("%q in %q: %v", texts, b, l)
		}
		for i := range p {
			at := slices.IndexFunc(want, func(h api.Hit) bool { return h.Pattern == i })
			if at < 0 && first[i] != -1 || at >= 0 && first[i] != want[at].At {
				t.Fatalf("%q in %q: %v", texts, b, first)
			}
		}
	}
}

func TestLimits(t *testing.T) { // P11.1
	long := strings.Repeat("a", 64)
	for name, x := range map[string]struct {
		p    []api.Pattern
		want api.Errno
	}{
		"none":      {nil, api.OK},
		"32":        {slices.Repeat(patterns(long), 32), api.OK},
		"33":        {slices.Repeat(patterns("a"), 33), api.ErrPattern},
		"no bytes":  {patterns("a", ""), api.ErrPattern},
		"65 bytes":  {patterns(long + "a"), api.ErrPattern},
		"no use":    {[]api.Pattern{{Bytes: []byte("a")}}, api.ErrPattern},
		"wrong use": {[]api.Pattern{{Use: api.Use{Alg: api.RC4, Bits: 41}, Bytes: []byte("a")}}, api.ErrPattern},
	} {
		if e := pattern.Check(x.p); e != x.want {
			t.Errorf("%s: %v", name, e)
		}
		if _, e := pattern.Find(x.p, nil); e != x.want {
			t.Errorf("%s: %v", name, e)
		}
		if _, e := pattern.First(x.p, make([]byte, 4097)); e != max(x.want, api.ErrLimit) {
			t.Errorf("%s: %v", name, e)
		}
		if _, e := pattern.Uses(x.p, api.Image{}); e != x.want {
			t.Errorf("%s: %v", name, e)
		}
	}
	for n, want := range map[int]api.Errno{1000: api.OK, 1001: api.ErrLimit, 4096: api.ErrLimit, 4097: api.ErrLimit} {
		l, e := pattern.Find(patterns("a"), bytes.Repeat([]byte("a"), n))
		if e != want || e != api.OK && len(l) > 0 {
			t.Errorf("%d: %d, %v", n, len(l), e)
		}
	}
	if l, e := pattern.Find(slices.Repeat(patterns(long), 32), bytes.Repeat([]byte("a"), 94)); e != api.OK || len(l) != 31*32 {
		t.Errorf("%d, %v", len(l), e)
	}
	if l, e := pattern.First(slices.Repeat(patterns("a"), 32), bytes.Repeat([]byte("a"), 4096)); e != api.OK || !slices.Equal(l, make([]int, 32)) {
		t.Errorf("%v, %v", l, e)
	}
	if l, e := pattern.Find(patterns("ab"), append(make([]byte, 4094), 'a', 'b')); e != api.OK || len(l) != 1 || l[0].At != 4094 {
		t.Errorf("%v, %v", l, e)
	}
}

func TestUses(t *testing.T) { // P11.2
	section := func(name, b string) api.Section { return api.Section{Name: name, Bytes: []byte(b)} }
	i := api.Image{Sections: []api.Section{section("a", "xxab"), section("b", "cdd")}}
	p := patterns("d", "ab", "xx", "bc", "c")
	l, e := pattern.Uses(p, i)
	if want := []api.Use{{Alg: api.MD5}, {Alg: api.RC4, Bits: 40}, {Alg: api.RC4, Bits: 128}}; e != api.OK || !slices.Equal(l, want) {
		t.Errorf("%v, %v", l, e)
	}
	if l, e := pattern.Uses(p, api.Image{}); e != api.OK || len(l) > 0 {
		t.Errorf("%v, %v", l, e)
	}
	many := api.Image{Sections: []api.Section{section("a", strings.Repeat("d", 3000))}}
	if l, e := pattern.Uses(p, many); e != api.OK || len(l) != 1 {
		t.Errorf("%v, %v", l, e)
	}
	i.Sections[0].Name = ""
	if l, e := pattern.Uses(p, i); e != api.ErrImage || len(l) > 0 {
		t.Errorf("%v, %v", l, e)
	}
	if l, e := pattern.Uses(patterns(""), i); e != api.ErrPattern || len(l) > 0 {
		t.Errorf("%v, %v", l, e)
	}
}

func TestPrefix(t *testing.T) { // P11.3
	for s, want := range map[string][]int{"": {}, "a": {0}, "abab": {0, 0, 1, 2}, "aaaa": {0, 1, 2, 3}, "abcab": {0, 0, 0, 1, 2}, "aabaaab": {0, 1, 0, 1, 2, 2, 3}} {
		if l := pattern.Prefix([]byte(s)); !slices.Equal(l, want) {
			t.Errorf("%q: %v", s, l)
		}
	}
	r := rand.New(rand.NewSource(2))
	for range 500 {
		b := make([]byte, r.Intn(20))
		for i := range b {
			b[i] = byte(r.Intn(2))
		}
		l := pattern.Prefix(b)
		for i := range b {
			want := i
			for ; !bytes.HasSuffix(b[:i+1], b[:want]); want-- {
			}
			if len(l) != len(b) || l[i] != want {
				t.Fatalf("%v: %v", b, l)
			}
		}
	}
}

func TestMemory(t *testing.T) { // R3
	p, b := patterns("a", "ab"), []byte("abab")
	i := api.Image{Sections: []api.Section{{Name: "a", Bytes: b}}}
	apart(t, "Find", func() []api.Hit { l, _ := pattern.Find(p, b); return l }, p, b)
	apart(t, "First", func() []int { l, _ := pattern.First(p, b); return l }, p, b)
	apart(t, "Uses", func() []api.Use { l, _ := pattern.Uses(p, i); return l }, p, i)
	apart(t, "Prefix", func() []int { return pattern.Prefix(b) }, b)
}
