package exception_test

import (
	"bytes"
	"cipherplan/api"
	"cipherplan/certificate"
	"cipherplan/der"
	"cipherplan/exception"
	"math"
	"reflect"
	"slices"
	"strings"
	"testing"
)

func md5() api.Use { return api.Use{Alg: api.MD5} }

// right returns a right exception without seals, with something changed.
func right(f func(*api.Exception)) api.Exception {
	x := api.Exception{Use: md5(), Purpose: 2, Endpoint: "web", Days: api.Span{From: 10, To: 20}}
	f(&x)
	return x
}

func nothing(*api.Exception) {}

// signed returns an exception with the seals of keys.
func signed(t *testing.T, x api.Exception, keys ...int) api.Exception {
	t.Helper()
	for _, k := range keys {
		y, e := exception.Sign(x, k)
		if e != api.OK {
			t.Fatal(e)
		}
		x = y
	}
	return x
}

// wrong returns exceptions that are not right.
func wrong() map[string]api.Exception {
	seals := func(l ...api.Seal) func(*api.Exception) { return func(x *api.Exception) { x.Seals = l } }
	var nine []api.Seal
	for i := range 9 {
		nine = append(nine, api.Seal{Key: i})
	}
	return map[string]api.Exception{
		"zero":         {},
		"use":          right(func(x *api.Exception) { x.Use.Bits = 1 }),
		"purpose 0":    right(func(x *api.Exception) { x.Purpose = 0 }),
		"purpose 5":    right(func(x *api.Exception) { x.Purpose = 5 }),
		"no endpoint":  right(func(x *api.Exception) { x.Endpoint = "" }),
		"endpoint":     right(func(x *api.Exception) { x.Endpoint = "a b" }),
		"long":         right(func(x *api.Exception) { x.Endpoint = strings.Repeat("x", 33) }),
		"from":         right(func(x *api.Exception) { x.Days.From = -1 }),
		"no days":      right(func(x *api.Exception) { x.Days.To = 10 }),
		"to":           right(func(x *api.Exception) { x.Days.To = api.MaxDay + 2 }),
		"nine":         right(seals(nine...)),
		"twice":        right(seals(api.Seal{Key: 1}, api.Seal{Key: 1})),
		"descending":   right(seals(api.Seal{Key: 2}, api.Seal{Key: 1})),
		"a key":        right(seals(api.Seal{Key: -1})),
		"a great key":  right(seals(api.Seal{Key: api.MaxKey + 1})),
		"a sum":        right(seals(api.Seal{Sum: -1})),
		"a great sum":  right(seals(api.Seal{Sum: 1 << 32})),
		"second a sum": right(seals(api.Seal{}, api.Seal{Key: 1, Sum: -1})),
	}
}

func TestWrong(t *testing.T) { // P19.1 to P19.3
	for name, x := range wrong() {
		b, f := exception.Bytes(x)
		s, g := exception.Sign(x, -1)
		ok, h := exception.Allowed(api.Policy{}, []api.Exception{right(nothing), x}, api.Owners{}, md5(), 1, "web", 1)
		if e := exception.Check(x); e != api.ErrException || f != e || g != e || h != e || ok || len(b) > 0 || !reflect.DeepEqual(s, api.Exception{}) {
			t.Errorf("%s: %v, %v, %v, %v", name, e, f, g, h)
		}
		if exception.Valid(x, api.Owners{Keys: []int{0, 1, 2}, Need: 0}) {
			t.Errorf("%s: valid", name)
		}
	}
}

func TestBytes(t *testing.T) { // P19.1
	for _, x := range []api.Exception{right(nothing), right(func(x *api.Exception) {
		*x = api.Exception{Use: api.Use{Alg: api.RSA, Bits: 2048}, Purpose: 4, Endpoint: strings.Repeat("~", 32), Days: api.Span{To: api.MaxDay + 1}, Seals: []api.Seal{{Key: 0, Sum: 0}, {Key: api.MaxKey, Sum: 1<<32 - 1}}}
	})} {
		want, _ := der.Encode(der.List([]api.Value{der.Int(x.Use.Alg), der.Int(x.Use.Bits), der.Int(x.Purpose), der.Text(x.Endpoint), der.Int(x.Days.From), der.Int(x.Days.To)}))
		if b, e := exception.Bytes(x); e != api.OK || !bytes.Equal(b, want) || exception.Check(x) != api.OK {
			t.Errorf("%v: %v, %v", x, b, e)
		}
	}
}

func TestSign(t *testing.T) { // P19.1
	b, _ := exception.Bytes(right(nothing))
	sum := certificate.Sum(b)
	x := signed(t, right(nothing), 5, api.MaxKey, 0, 7)
	want := []api.Seal{{Key: 0, Sum: sum}, {Key: 5, Sum: sum}, {Key: 7, Sum: sum}, {Key: api.MaxKey, Sum: sum}}
	if !slices.Equal(x.Seals, want) {
		t.Error(x.Seals)
	}
	x.Seals[1].Sum = 9
	if y := signed(t, x, 5); !slices.Equal(y.Seals, want) {
		t.Error(y.Seals)
	}
	for _, key := range []int{-1, api.MaxKey + 1, math.MinInt, math.MaxInt} {
		if y, e := exception.Sign(x, key); e != api.ErrRange || !reflect.DeepEqual(y, api.Exception{}) {
			t.Errorf("%d: %v, %v", key, y, e)
		}
	}
	full := signed(t, right(nothing), 1, 2, 3, 4, 5, 6, 7, 8)
	if y, e := exception.Sign(full, 9); e != api.ErrLimit || !reflect.DeepEqual(y, api.Exception{}) {
		t.Errorf("%v, %v", y, e)
	}
	if y, e := exception.Sign(full, 8); e != api.OK || !slices.Equal(y.Seals, full.Seals) {
		t.Errorf("%v, %v", y, e)
	}
	if _, e := exception.Sign(full, -1); e != api.ErrRange {
		t.Error(e)
	}
}

func TestValid(t *testing.T) { // P19.2
	two := signed(t, right(nothing), 1, 3)
	broken := signed(t, right(nothing), 1, 3)
	broken.Seals[0].Sum ^= 1
	for name, x := range map[string]struct {
		x    api.Exception
		o    api.Owners
		want bool
	}{
		"two of three":    {two, api.Owners{Keys: []int{3, 2, 1}, Need: 2}, true},
		"one is enough":   {two, api.Owners{Keys: []int{3, 2}, Need: 1}, true},
		"one of three":    {signed(t, right(nothing), 1), api.Owners{Keys: []int{1, 2, 3}, Need: 2}, false},
		"no owner":        {two, api.Owners{Keys: []int{2, 4}, Need: 1}, false},
		"an owner twice":  {two, api.Owners{Keys: []int{3, 3}, Need: 2}, false},
		"none needed":     {two, api.Owners{Keys: []int{1, 3}, Need: 0}, false},
		"negative":        {two, api.Owners{Keys: []int{1, 3}, Need: -1}, false},
		"three needed":    {two, api.Owners{Keys: []int{1, 3}, Need: 3}, false},
		"broken":          {broken, api.Owners{Keys: []int{1, 3}, Need: 2}, false},
		"not all broken":  {broken, api.Owners{Keys: []int{1, 3}, Need: 1}, true},
		"no seal":         {right(nothing), api.Owners{Keys: []int{1, 3}, Need: 1}, false},
		"another use":     {right(func(x *api.Exception) { x.Seals = two.Seals; x.Use.Alg = api.SHA1 }), api.Owners{Keys: []int{1, 3}, Need: 1}, false},
		"another purpose": {right(func(x *api.Exception) { x.Seals = two.Seals; x.Purpose = 1 }), api.Owners{Keys: []int{1, 3}, Need: 1}, false},
		"another name":    {right(func(x *api.Exception) { x.Seals = two.Seals; x.Endpoint = "wec" }), api.Owners{Keys: []int{1, 3}, Need: 1}, false},
		"another from":    {right(func(x *api.Exception) { x.Seals = two.Seals; x.Days.From = 9 }), api.Owners{Keys: []int{1, 3}, Need: 1}, false},
		"another to":      {right(func(x *api.Exception) { x.Seals = two.Seals; x.Days.To = 21 }), api.Owners{Keys: []int{1, 3}, Need: 1}, false},
	} {
		if exception.Valid(x.x, x.o) != x.want {
			t.Error(name)
		}
	}
}

func TestCovers(t *testing.T) { // P19.2
	x := right(func(x *api.Exception) { x.Seals = []api.Seal{{Key: -5}} }) // not right, but that is not asked
	for day, want := range map[int]bool{9: false, 10: true, 19: true, 20: false, -1: false, math.MaxInt: false} {
		if exception.Covers(x, md5(), 2, "web", day) != want {
			t.Error(day)
		}
	}
	if exception.Covers(x, api.Use{Alg: api.SHA1}, 2, "web", 15) || exception.Covers(x, md5(), 1, "web", 15) || exception.Covers(x, md5(), 2, "we", 15) {
		t.Error("something else is covered")
	}
}

func TestAllowed(t *testing.T) { // P19.3
	forbid := api.Policy{Rules: []api.Rule{{To: api.MaxDay + 1}}}
	o := api.Owners{Keys: []int{1, 3}, Need: 2}
	good, bad := signed(t, right(nothing), 1, 3), signed(t, right(nothing), 1)
	for name, x := range map[string]struct {
		p        api.Policy
		l        []api.Exception
		u        api.Use
		purpose  int
		endpoint string
		day      int
		want     bool
	}{
		"allowed":          {api.Policy{}, nil, md5(), 2, "web", 15, true},
		"forbidden":        {forbid, nil, md5(), 2, "web", 15, false},
		"permitted":        {forbid, []api.Exception{bad, good}, md5(), 2, "web", 10, true},
		"too early":        {forbid, []api.Exception{good}, md5(), 2, "web", 9, false},
		"too late":         {forbid, []api.Exception{good}, md5(), 2, "web", 20, false},
		"one has signed":   {forbid, []api.Exception{bad}, md5(), 2, "web", 15, false},
		"another use":      {forbid, []api.Exception{good}, api.Use{Alg: api.SHA1}, 2, "web", 15, false},
		"another purpose":  {forbid, []api.Exception{good}, md5(), 1, "web", 15, false},
		"another endpoint": {forbid, []api.Exception{good}, md5(), 2, "app", 15, false},
	} {
		if ok, e := exception.Allowed(x.p, x.l, o, x.u, x.purpose, x.endpoint, x.day); ok != x.want || e != api.OK {
			t.Errorf("%s: %v, %v", name, ok, e)
		}
	}
	none := []api.Exception{{}}
	for i, x := range []struct {
		p            api.Policy
		u            api.Use
		purpose, day int
		want         api.Errno
	}{{api.Policy{Rules: []api.Rule{{}}}, api.Use{}, 0, -1, api.ErrRule}, {forbid, api.Use{}, 0, -1, api.ErrUse}, {forbid, md5(), 0, 1, api.ErrRange}, {forbid, md5(), 1, -1, api.ErrRange}, {api.Policy{}, md5(), 1, 1, api.ErrException}} {
		if ok, e := exception.Allowed(x.p, none, o, x.u, x.purpose, "web", x.day); ok || e != x.want {
			t.Errorf("%d: %v, %v", i, ok, e)
		}
	}
}

func TestEnds(t *testing.T) { // P19.3
	o := api.Owners{Keys: []int{1}, Need: 1}
	on := func(from, to int) api.Exception {
		return signed(t, right(func(x *api.Exception) { x.Days = api.Span{From: from, To: to} }), 1)
	}
	unsigned := right(func(x *api.Exception) { x.Days = api.Span{From: 30, To: 99} })
	other := signed(t, right(func(x *api.Exception) { x.Days, x.Purpose = api.Span{From: 30, To: 99}, 1 }), 1)
	l := []api.Exception{on(25, 30), other, on(10, 20), unsigned, on(18, 25), on(12, 15), on(31, 40), on(39, 41), {}}
	for day, want := range map[int]int{9: 0, 10: 30, 24: 30, 29: 30, 30: 0, 31: 41, 40: 41, 41: 0, -5: 0, math.MinInt: 0, math.MaxInt: 0} {
		if n, ok := exception.Ends(l, o, md5(), 2, "web", day); n != want || ok != (want > 0) {
			t.Errorf("%d: %d, %v", day, n, ok)
		}
	}
	if n, ok := exception.Ends(l, o, md5(), 2, "app", 15); n != 0 || ok {
		t.Errorf("%d, %v", n, ok)
	}
	if n, ok := exception.Ends([]api.Exception{on(0, api.MaxDay+1)}, o, md5(), 2, "web", 5); n != api.MaxDay+1 || !ok {
		t.Errorf("%d, %v", n, ok)
	}
}

func TestOtherBytes(t *testing.T) { // consequence: one other byte makes another sum
	b, _ := exception.Bytes(right(nothing))
	for i := range b {
		c := bytes.Clone(b)
		for x := 1; x < 256; x++ {
			c[i] = b[i] ^ byte(x)
			if certificate.Sum(c) == certificate.Sum(b) {
				t.Errorf("%d, %d", i, x)
			}
		}
	}
}

func TestMemory(t *testing.T) { // R3
	x, o := signed(t, right(nothing), 5, 7), api.Owners{Keys: []int{7, 5}, Need: 2}
	x.Seals = append(make([]api.Seal, 0, 10), x.Seals...)
	apart(t, "Bytes", func() []byte { b, _ := exception.Bytes(x); return b }, x)
	apart(t, "Sign", func() api.Exception { y, _ := exception.Sign(x, 6); return y }, x)
	apart(t, "Sign again", func() api.Exception { y, _ := exception.Sign(x, 7); return y }, x)
	apart(t, "Valid", func() bool { return exception.Valid(x, o) }, x, o)
}
