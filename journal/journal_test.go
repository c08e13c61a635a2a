package journal_test

import (
	"cipherplan/api"
	"cipherplan/journal"
	"cipherplan/ledger"
	"math"
	"math/rand"
	"slices"
	"strings"
	"testing"
)

func d(day, known, kind, subject, value int) api.Decision {
	return api.Decision{Day: day, Known: known, Kind: kind, Subject: subject, Value: value}
}

// written returns the bytes of decisions.
func written(t *testing.T, l ...api.Decision) string {
	t.Helper()
	s := ""
	for _, x := range l {
		b, e := journal.Encode(x)
		if e != api.OK {
			t.Fatal(e)
		}
		s += b
	}
	return s
}

// sealed returns eight bytes with their sum.
func sealed(s string) string {
	n := journal.Sum(s)
	return s + string([]byte{byte(n >> 24), byte(n >> 16), byte(n >> 8), byte(n)})
}

// prime is what sums are multiplied by.
var prime = uint32(16777619)

func TestSum(t *testing.T) { // P42.1
	for s, want := range map[string]int{"": 2166136261, "a": 3826002220, "foobar": 0xbf9cf968, "\xff": int((uint32(2166136261) ^ 255) * prime)} {
		if n := journal.Sum(s); n != want {
			t.Errorf("%q: %d", s, n)
		}
	}
}

func TestBytes(t *testing.T) { // P42.1
	for _, x := range []struct {
		d    api.Decision
		want string
	}{
		{d(0, 0, 1, 0, 0), "\x00\x00\x00\x00\x00\x01\x00\x00"},
		{d(0x0102, 0x0103, 4, 5, 1), "\x00\x01\x02\x01\x03\x04\x05\x01"},
		{d(api.MaxDay, api.MaxFindings, 5, api.MaxEdges, 1), "\x00\x9c\x40\x01\x90\x05\x28\x01"},
	} {
		b, e := journal.Encode(x.d)
		if e != api.OK || b != sealed(x.want) || len(b) != 12 {
			t.Errorf("%v: %q, %v", x.d, b, e)
		}
		got, n, e := journal.Decode("xyz"+b+"more", 3)
		if got != x.d || n != 15 || e != api.OK {
			t.Errorf("%v: %v, %d, %v", x.d, got, n, e)
		}
	}
	for _, x := range []api.Decision{{}, d(-1, 0, 1, 0, 0), d(api.MaxDay+1, 0, 1, 0, 0), d(0, 401, 1, 0, 0), d(0, 0, 6, 0, 0), d(0, 0, 1, 41, 0), d(0, 0, 1, 0, 2)} {
		if b, e := journal.Encode(x); e != api.ErrDecision || b != "" {
			t.Errorf("%v: %q, %v", x, b, e)
		}
		if s, e := journal.Append("abc", x); e != api.ErrDecision || s != "abc" {
			t.Errorf("%v: %q, %v", x, s, e)
		}
	}
}

func TestDecode(t *testing.T) { // P42.1
	s := written(t, d(1, 2, 3, 4, 1))
	other := []byte(s)
	other[3] ^= 1
	for name, x := range map[string]struct {
		s    string
		at   int
		want api.Errno
	}{
		"before":       {s, -1, api.ErrRange},
		"far before":   {s, math.MinInt, api.ErrRange},
		"behind":       {s, 13, api.ErrRange},
		"far behind":   {s, math.MaxInt, api.ErrRange},
		"at the end":   {s, 12, api.ErrForm},
		"too few":      {s, 1, api.ErrForm},
		"nothing":      {"", 0, api.ErrForm},
		"eleven":       {s[:11], 0, api.ErrForm},
		"another sum":  {string(other), 0, api.ErrRecord},
		"moved":        {s + s, 1, api.ErrRecord},
		"no kind":      {sealed("\x00\x00\x00\x00\x00\x00\x00\x00"), 0, api.ErrDecision},
		"kind 6":       {sealed("\x00\x00\x00\x00\x00\x06\x00\x00"), 0, api.ErrDecision},
		"a late day":   {sealed("\x00\x9c\x41\x00\x00\x01\x00\x00"), 0, api.ErrDecision},
		"many known":   {sealed("\x00\x00\x00\x01\x91\x01\x00\x00"), 0, api.ErrDecision},
		"no edge":      {sealed("\x00\x00\x00\x00\x00\x01\x29\x00"), 0, api.ErrDecision},
		"value 2":      {sealed("\x00\x00\x00\x00\x00\x01\x00\x02"), 0, api.ErrDecision},
		"record first": {"\x00\x00\x00\x00\x00\x06\x00\x00abcd", 0, api.ErrRecord},
	} {
		if got, n, e := journal.Decode(x.s, x.at); e != x.want || n != 0 || got != (api.Decision{}) {
			t.Errorf("%s: %v, %d, %v", name, got, n, e)
		}
	}
}

func TestAppend(t *testing.T) { // P42.2
	x := d(1, 2, 3, 4, 1)
	if s, e := journal.Append("ab", x); e != api.OK || s != "ab"+written(t, x) {
		t.Errorf("%q, %v", s, e)
	}
	full := strings.Repeat("x", api.MaxJournal-12)
	if s, e := journal.Append(full, x); e != api.OK || len(s) != api.MaxJournal {
		t.Errorf("%d, %v", len(s), e)
	}
	if s, e := journal.Append(full+"x", x); e != api.ErrLimit || s != full+"x" {
		t.Errorf("%d, %v", len(s), e)
	}
	if _, e := journal.Append(full+"x", api.Decision{}); e != api.ErrDecision {
		t.Error(e)
	}
}

// some returns decisions, of which the third does not fit behind the others.
func some() []api.Decision {
	return []api.Decision{d(5, 2, 1, 4, 1), d(6, 2, 2, 3, 0), d(4, 9, 3, 4, 1), d(6, 3, 1, 1, 0)}
}

func TestOpen(t *testing.T) { // P42.2
	s := written(t, some()...)
	for name, x := range map[string]struct {
		s string
		n int
	}{"all": {s, 4}, "none": {"", 0}, "torn": {s[:47], 3}, "and more": {s + "abc", 4}, "a wrong one": {s[:12] + "abcdefghijkl" + s[12:], 1}, "one not valid": {s[:24] + sealed("\x00\x00\x00\x00\x00\x06\x00\x00") + s, 2}} {
		l, at := journal.Open(x.s)
		if !slices.Equal(l, some()[:x.n]) || at != 12*x.n || journal.Whole(x.s) != s[:at] {
			t.Errorf("%s: %v, %d", name, l, at)
		}
		var want api.Ledger
		for _, y := range some()[:x.n] {
			want, _ = ledger.Add(want, y)
		}
		if got, n := journal.Replay(x.s); n != x.n || !ledger.Same(got, want) {
			t.Errorf("%s: %v, %d", name, got, n)
		}
	}
	if l, n := journal.Replay(s); n != 4 || !slices.Equal(l.Decisions, []api.Decision{some()[0], some()[1], some()[3]}) {
		t.Errorf("%v, %d", l, n)
	}
	long := strings.Repeat(written(t, d(1, 1, 1, 1, 1)), 200)
	if l, n := journal.Replay(long); n != 200 || len(l.Decisions) != 128 || ledger.Check(l) != api.OK {
		t.Errorf("%d, %d", len(l.Decisions), n)
	}
}

func TestCrash(t *testing.T) { // P42.2
	for _, x := range []struct {
		safe int
		torn string
		want string
	}{{3, "xy", "abcxy"}, {0, "xy", "xy"}, {-1, "", ""}, {math.MinInt, "x", "x"}, {6, "", "abcdef"}, {7, "x", "abcdefx"}, {math.MaxInt, "x", "abcdefx"}} {
		if s := journal.Crash("abcdef", x.safe, x.torn); s != x.want {
			t.Errorf("%v: %q", x, s)
		}
	}
}

func TestConsequences(t *testing.T) { // what was safe is read first; a byte that is changed ends the journal at its decision
	r := rand.New(rand.NewSource(1))
	s := ""
	for _, x := range some() {
		s, _ = journal.Append(s, x)
	}
	if l, _ := journal.Open(s); !slices.Equal(l, some()) {
		t.Error(l)
	}
	for safe := range len(s) + 1 {
		torn := make([]byte, r.Intn(30))
		r.Read(torn)
		l, _ := journal.Open(journal.Crash(s, safe, string(torn)))
		if len(l) < safe/12 || !slices.Equal(l[:safe/12], some()[:safe/12]) {
			t.Fatalf("%d: %v", safe, l)
		}
	}
	for i := range len(s) {
		for x := 1; x < 256; x++ {
			b := []byte(s)
			b[i] ^= byte(x)
			if l, at := journal.Open(string(b)); len(l) != i/12 || at != i/12*12 {
				t.Fatalf("byte %d: %v", i, l)
			}
		}
	}
}

func TestMemory(t *testing.T) { // R3
	s := written(t, some()...)
	apart(t, "Open", func() []api.Decision { l, _ := journal.Open(s); return l })
	apart(t, "Replay", func() api.Ledger { l, _ := journal.Replay(s); return l })
}
