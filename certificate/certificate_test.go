package certificate_test

import (
	"bytes"
	"cipherplan/api"
	"cipherplan/certificate"
	"cipherplan/der"
	"math"
	"reflect"
	"strings"
	"testing"
)

// right returns a valid certificate in which no two fields are equal.
func right() api.Certificate {
	return api.Certificate{Serial: 900, Issuer: "ca", Subject: "web", Key: api.Use{Alg: api.RSA, Bits: 2048}, KeyId: 77, Hash: api.Use{Alg: api.SHA256}, From: 10, To: 20, Authority: true, Path: 3, Names: []string{"a", "b.c"}, Seal: api.Seal{Key: 5, Sum: 6}}
}

// with returns a valid certificate with something changed.
func with(f func(*api.Certificate)) api.Certificate {
	c := right()
	f(&c)
	return c
}

// wrong returns certificates that are not valid.
func wrong() map[string]api.Certificate {
	long := strings.Repeat("x", 33)
	nine := []string{"1", "2", "3", "4", "5", "6", "7", "8", "9"}
	return map[string]api.Certificate{
		"zero":               {},
		"serial":             with(func(c *api.Certificate) { c.Serial = -1 }),
		"great serial":       with(func(c *api.Certificate) { c.Serial = api.MaxNumber + 1 }),
		"no issuer":          with(func(c *api.Certificate) { c.Issuer = "" }),
		"issuer with blank":  with(func(c *api.Certificate) { c.Issuer = "a b" }),
		"long issuer":        with(func(c *api.Certificate) { c.Issuer = long }),
		"no subject":         with(func(c *api.Certificate) { c.Subject = "" }),
		"subject with 127":   with(func(c *api.Certificate) { c.Subject = "\x7f" }),
		"key is none":        with(func(c *api.Certificate) { c.Key = api.Use{Alg: api.RSA, Bits: 511} }),
		"key is a hash":      with(func(c *api.Certificate) { c.Key = api.Use{Alg: api.SHA256} }),
		"key id":             with(func(c *api.Certificate) { c.KeyId = -1 }),
		"great key id":       with(func(c *api.Certificate) { c.KeyId = api.MaxKey + 1 }),
		"hash is none":       with(func(c *api.Certificate) { c.Hash = api.Use{Alg: api.SHA256, Bits: 1} }),
		"hash is a key":      with(func(c *api.Certificate) { c.Hash = api.Use{Alg: api.ED25519} }),
		"from":               with(func(c *api.Certificate) { c.From = -1 }),
		"to before from":     with(func(c *api.Certificate) { c.To = 9 }),
		"to":                 with(func(c *api.Certificate) { c.To = api.MaxDay + 1 }),
		"path":               with(func(c *api.Certificate) { c.Path = -1 }),
		"great path":         with(func(c *api.Certificate) { c.Path = api.MaxChain + 1 }),
		"path, no authority": with(func(c *api.Certificate) { c.Authority = false; c.Path = 1 }),
		"nine names":         with(func(c *api.Certificate) { c.Names = nine }),
		"names twice":        with(func(c *api.Certificate) { c.Names = []string{"a", "a"} }),
		"names descend":      with(func(c *api.Certificate) { c.Names = []string{"b", "a"} }),
		"name is none":       with(func(c *api.Certificate) { c.Names = []string{"", "a"} }),
		"long name":          with(func(c *api.Certificate) { c.Names = []string{long} }),
		"seal key":           with(func(c *api.Certificate) { c.Seal.Key = -1 }),
		"great seal key":     with(func(c *api.Certificate) { c.Seal.Key = api.MaxKey + 1 }),
		"seal sum":           with(func(c *api.Certificate) { c.Seal.Sum = -1 }),
		"great seal sum":     with(func(c *api.Certificate) { c.Seal.Sum = 1 << 32 }),
	}
}

// extreme returns valid certificates at the limits.
func extreme() map[string]api.Certificate {
	long := strings.Repeat("~", 32)
	eight := []string{"1", "2", "3", "4", "5", "6", "7", long}
	return map[string]api.Certificate{
		"right":    right(),
		"least":    {Issuer: "!", Subject: "!", Key: api.Use{Alg: api.ED25519}, Hash: api.Use{Alg: api.MD5}},
		"greatest": {Serial: api.MaxNumber, Issuer: long, Subject: long, Key: api.Use{Alg: api.RSA, Bits: api.MaxBits}, KeyId: api.MaxKey, Hash: api.Use{Alg: api.SHA384}, From: api.MaxDay, To: api.MaxDay, Authority: true, Path: api.MaxChain, Names: eight, Seal: api.Seal{Key: api.MaxKey, Sum: 1<<32 - 1}},
		"path 0":   with(func(c *api.Certificate) { c.Authority = false; c.Path = 0 }),
		"one day":  with(func(c *api.Certificate) { c.To = c.From }),
		"no names": with(func(c *api.Certificate) { c.Names = nil }),
	}
}

// elements returns the elements of a certificate, as the chapter says.
func elements(c api.Certificate) (signed, whole api.Value) {
	ints := func(a, b int) api.Value { return der.List([]api.Value{der.Int(a), der.Int(b)}) }
	var names []api.Value
	for _, n := range c.Names {
		names = append(names, der.Text(n))
	}
	signed = der.List([]api.Value{der.Int(c.Serial), der.Text(c.Issuer), der.Text(c.Subject), ints(c.Key.Alg, c.Key.Bits), der.Int(c.KeyId), ints(c.Hash.Alg, c.Hash.Bits), der.Int(c.From), der.Int(c.To), der.Bool(c.Authority), der.Int(c.Path), der.List(names)})
	return signed, der.List([]api.Value{signed, ints(c.Seal.Key, c.Seal.Sum)})
}

func TestBytes(t *testing.T) { // P3.1 and P3.3
	for name, c := range extreme() {
		signed, whole := elements(c)
		wantSigned, _ := der.Encode(signed)
		want, _ := der.Encode(whole)
		if e := certificate.Check(c); e != api.OK {
			t.Errorf("%s: %v", name, e)
		}
		if b, e := certificate.Bytes(c); e != api.OK || !bytes.Equal(b, wantSigned) {
			t.Errorf("%s: %v, %v", name, b, e)
		}
		if b, e := certificate.Encode(c); e != api.OK || !bytes.Equal(b, want) {
			t.Errorf("%s: %v, %v", name, b, e)
		}
		d, e := certificate.Decode(want)
		if e != api.OK || !certificate.Same(c, d) || len(d.Names) != len(c.Names) {
			t.Errorf("%s: %+v, %v", name, d, e)
		}
	}
}

func TestWrong(t *testing.T) { // P3.1 to P3.3
	for name, c := range wrong() {
		if e := certificate.Check(c); e != api.ErrCert {
			t.Errorf("%s: %v", name, e)
		}
		if b, e := certificate.Bytes(c); e != api.ErrCert || len(b) > 0 {
			t.Errorf("%s: %v", name, e)
		}
		if b, e := certificate.Encode(c); e != api.ErrCert || len(b) > 0 {
			t.Errorf("%s: %v", name, e)
		}
		if certificate.Sealed(c, c.Seal.Key) {
			t.Errorf("%s: sealed", name)
		}
		signed, whole := elements(c)
		b, _ := der.Encode(signed)
		c.Seal = api.Seal{Key: 5, Sum: certificate.Sum(b)}
		if certificate.Sealed(c, 5) && !strings.Contains(name, "seal") {
			t.Errorf("%s: sealed", name)
		}
		b, _ = der.Encode(whole)
		want := api.ErrCert
		if strings.Contains(name, "127") {
			want = api.ErrForm // no text at all
		}
		if d, e := certificate.Decode(b); e != want || !reflect.DeepEqual(d, api.Certificate{}) {
			t.Errorf("%s: %+v, %v", name, d, e)
		}
	}
}

func TestSum(t *testing.T) { // P3.2
	for s, want := range map[string]int{"": 2166136261, "a": 3826002220, "foobar": 0xbf9cf968} {
		if n := certificate.Sum([]byte(s)); n != want {
			t.Errorf("%q: %d", s, n)
		}
	}
}

func TestSeals(t *testing.T) { // P3.2
	for name, c := range extreme() {
		for _, key := range []int{0, 7, api.MaxKey} {
			s, e := certificate.Sign(c, key)
			b, _ := certificate.Bytes(c)
			if e != api.OK || s.Seal != (api.Seal{Key: key, Sum: certificate.Sum(b)}) || !certificate.Sealed(s, key) || certificate.Sealed(s, key+1) {
				t.Errorf("%s: %+v, %v", name, s, e)
			}
			s.Seal.Sum ^= 1
			if certificate.Sealed(s, key) {
				t.Errorf("%s: sealed by another sum", name)
			}
			s.Seal = c.Seal
			if !certificate.Same(s, c) {
				t.Errorf("%s: changed", name)
			}
		}
	}
	for name, c := range wrong() {
		want := api.ErrCert
		if strings.Contains(name, "seal") {
			want = api.OK // it gets another one
		}
		if s, e := certificate.Sign(c, 7); e != want || e != api.OK && !reflect.DeepEqual(s, api.Certificate{}) {
			t.Errorf("%s: %+v, %v", name, s, e)
		}
	}
	for _, key := range []int{-1, api.MaxKey + 1, math.MinInt, math.MaxInt} {
		if s, e := certificate.Sign(right(), key); e != api.ErrCert || !reflect.DeepEqual(s, api.Certificate{}) {
			t.Errorf("%d: %+v, %v", key, s, e)
		}
	}
}

func TestOtherBytes(t *testing.T) { // consequence: one byte of the signed bytes makes another sum
	c, _ := certificate.Sign(right(), 7)
	b, _ := certificate.Encode(c)
	for i := range b {
		for x := 1; x < 256; x++ {
			o := bytes.Clone(b)
			o[i] ^= byte(x)
			if d, e := certificate.Decode(o); e == api.OK && certificate.Sealed(d, 7) {
				t.Errorf("byte %d is %d: still sealed", i, o[i])
			}
		}
	}
}

func TestDecode(t *testing.T) { // P3.3: the order of errors
	_, whole := elements(right())
	change := func(f func(v api.Value) api.Value) []byte {
		b, _ := der.Encode(f(whole))
		return b
	}
	field := func(i int, v api.Value) []byte {
		return change(func(w api.Value) api.Value {
			l := append([]api.Value{}, w.Elements[0].Elements...)
			l[i] = v
			return der.List([]api.Value{der.List(l), w.Elements[1]})
		})
	}
	one := der.List([]api.Value{der.Int(1)})
	three := der.List([]api.Value{der.Int(1), der.Int(1), der.Int(1)})
	forms := map[string][]byte{
		"no bytes":     {},
		"a number":     change(func(v api.Value) api.Value { return der.Int(1) }),
		"no seal":      change(func(v api.Value) api.Value { return der.List(v.Elements[:1]) }),
		"two seals":    change(func(v api.Value) api.Value { return der.List(append(v.Elements[:2:2], v.Elements[1])) }),
		"a long seal":  change(func(v api.Value) api.Value { return der.List([]api.Value{v.Elements[0], three}) }),
		"a short seal": change(func(v api.Value) api.Value { return der.List([]api.Value{v.Elements[0], one}) }),
		"ten fields": change(func(v api.Value) api.Value {
			return der.List([]api.Value{der.List(v.Elements[0].Elements[:10]), v.Elements[1]})
		}),
		"twelve fields": change(func(v api.Value) api.Value {
			return der.List([]api.Value{der.List(append(v.Elements[0].Elements[:11:11], der.Int(1))), v.Elements[1]})
		}),
		"signed is none":        change(func(v api.Value) api.Value { return der.List([]api.Value{der.Int(1), v.Elements[1]}) }),
		"a key of one":          field(3, one),
		"a hash of three":       field(5, three),
		"a name is a number":    field(10, one),
		"names are a name":      field(10, der.Text("a")),
		"authority is 1":        field(8, der.Int(1)),
		"form comes before not": field(0, der.Text("x")),
	}
	for i := range 11 {
		forms["another field "+string(rune('a'+i))] = field(i, api.Value{Tag: 5})
	}
	for name, b := range forms {
		if c, e := certificate.Decode(b); e != api.ErrForm || !reflect.DeepEqual(c, api.Certificate{}) {
			t.Errorf("%s: %+v, %v", name, c, e)
		}
	}
	if _, e := certificate.Decode(make([]byte, api.MaxBytes+1)); e != api.ErrLimit {
		t.Errorf("too long: %v", e)
	}
	if _, e := certificate.Decode(append(bytes.Repeat([]byte{48, 32}, 1), deep()...)); e != api.ErrLimit {
		t.Errorf("too deep: %v", e)
	}
	invalid := field(0, der.Int(-1))
	if _, e := certificate.Decode(invalid); e != api.ErrCert {
		t.Errorf("not valid: %v", e)
	}
}

// deep returns the bytes of 16 lists within one another.
func deep() []byte {
	var b []byte
	for n := 30; n >= 0; n -= 2 {
		b = append(b, 48, byte(n))
	}
	return b
}

func TestSame(t *testing.T) { // P3.3
	others := map[string]api.Certificate{
		"serial":    with(func(c *api.Certificate) { c.Serial++ }),
		"issuer":    with(func(c *api.Certificate) { c.Issuer = "x" }),
		"subject":   with(func(c *api.Certificate) { c.Subject = "x" }),
		"key":       with(func(c *api.Certificate) { c.Key.Bits++ }),
		"key id":    with(func(c *api.Certificate) { c.KeyId++ }),
		"hash":      with(func(c *api.Certificate) { c.Hash.Alg++ }),
		"from":      with(func(c *api.Certificate) { c.From++ }),
		"to":        with(func(c *api.Certificate) { c.To++ }),
		"authority": with(func(c *api.Certificate) { c.Authority = false }),
		"path":      with(func(c *api.Certificate) { c.Path++ }),
		"names":     with(func(c *api.Certificate) { c.Names = []string{"a"} }),
		"a name":    with(func(c *api.Certificate) { c.Names = []string{"a", "b"} }),
		"seal key":  with(func(c *api.Certificate) { c.Seal.Key++ }),
		"seal sum":  with(func(c *api.Certificate) { c.Seal.Sum++ }),
	}
	for name, c := range others {
		if certificate.Same(c, right()) || certificate.Same(right(), c) || !certificate.Same(c, c) {
			t.Error(name)
		}
	}
	if !certificate.Same(api.Certificate{}, api.Certificate{Names: []string{}}) {
		t.Error("no names")
	}
}

func TestMemory(t *testing.T) { // R3
	c := right()
	b, _ := certificate.Encode(c)
	apart(t, "Bytes", func() []byte { b, _ := certificate.Bytes(c); return b }, c)
	apart(t, "Encode", func() []byte { b, _ := certificate.Encode(c); return b }, c)
	apart(t, "Sign", func() api.Certificate { s, _ := certificate.Sign(c, 1); return s }, c)
	apart(t, "Decode", func() api.Certificate { s, _ := certificate.Decode(b); return s }, b)
}
