package keystore_test

import (
	"bytes"
	"cipherplan/api"
	"cipherplan/certificate"
	"cipherplan/der"
	"cipherplan/keystore"
	"cipherplan/sample"
	"fmt"
	"strings"
	"testing"
)

// entry returns an entry with a chain of two certificates.
func entry(alias string, id int) api.Entry {
	return api.Entry{Alias: alias, Key: sample.RSA(), KeyId: id, Secret: true, Chain: []api.Certificate{sample.Leaf("web", sample.RSA(), id, 9), sample.Authority("ca", 9, 8)}}
}

// store returns a valid key store.
func store() []api.Entry {
	return []api.Entry{entry("a", 1), {Alias: "b", Key: api.Use{Alg: api.ED25519}, KeyId: api.MaxKey}, entry("b.", 0)}
}

// with returns the key store with something changed.
func with(f func([]api.Entry)) []api.Entry {
	l := store()
	f(l)
	return l
}

// many returns entries without chains.
func many(from, to int) []api.Entry {
	var l []api.Entry
	for i := from; i < to; i++ {
		l = append(l, api.Entry{Alias: fmt.Sprintf("k%03d", i), Key: api.Use{Alg: api.ED25519}, KeyId: i})
	}
	return l
}

// wrong returns key stores that are not valid.
func wrong() map[string][]api.Entry {
	return map[string][]api.Entry{
		"65 entries":      many(0, 65),
		"twice":           with(func(l []api.Entry) { l[1].Alias = "a" }),
		"descending":      with(func(l []api.Entry) { l[0].Alias = "c" }),
		"no alias":        with(func(l []api.Entry) { l[0].Alias = "" }),
		"a blank":         with(func(l []api.Entry) { l[2].Alias = "b b" }),
		"a long alias":    with(func(l []api.Entry) { l[2].Alias = strings.Repeat("z", 33) }),
		"no key":          with(func(l []api.Entry) { l[1].Key = api.Use{} }),
		"no such size":    with(func(l []api.Entry) { l[1].Key.Bits = 1 }),
		"a hash":          with(func(l []api.Entry) { l[1].Key = api.Use{Alg: api.MD5} }),
		"key id":          with(func(l []api.Entry) { l[1].KeyId = -1 }),
		"a great key id":  with(func(l []api.Entry) { l[1].KeyId = api.MaxKey + 1 }),
		"nine":            with(func(l []api.Entry) { l[0].Chain = bytes9(l[0].Chain) }),
		"a certificate":   with(func(l []api.Entry) { l[0].Chain[1].Path = -1 }),
		"another key":     with(func(l []api.Entry) { l[0].Key.Bits = 3072 }),
		"another key id":  with(func(l []api.Entry) { l[0].KeyId = 2 }),
		"the other first": with(func(l []api.Entry) { l[0].Chain[0], l[0].Chain[1] = l[0].Chain[1], l[0].Chain[0] }),
	}
}

func bytes9(l []api.Certificate) []api.Certificate {
	for len(l) < 9 {
		l = append(l, l[1])
	}
	return l
}

// element returns the element of a key store, as the chapter says.
func element(l []api.Entry) api.Value {
	var entries []api.Value
	for _, e := range l {
		var chain []api.Value
		for _, c := range e.Chain {
			b, _ := certificate.Encode(c)
			v, _ := der.Decode(b)
			chain = append(chain, v)
		}
		key := der.List([]api.Value{der.Int(e.Key.Alg), der.Int(e.Key.Bits)})
		entries = append(entries, der.List([]api.Value{der.Text(e.Alias), key, der.Int(e.KeyId), der.Bool(e.Secret), der.List(chain)}))
	}
	return der.List(entries)
}

func TestBytes(t *testing.T) { // P5.1
	eight := []api.Entry{entry("x", 1)}
	eight[0].Chain = bytes9(eight[0].Chain)[:8]
	for name, l := range map[string][]api.Entry{"empty": nil, "store": store(), "64": many(0, 64), "eight": eight, "no chain": store()[1:2]} {
		want, _ := der.Encode(element(l))
		if e := keystore.Check(l); e != api.OK {
			t.Errorf("%s: %v", name, e)
		}
		if b, e := keystore.Encode(l); e != api.OK || !bytes.Equal(b, want) {
			t.Errorf("%s: %v, %v", name, b, e)
		}
		if d, e := keystore.Decode(want); e != api.OK || !keystore.Same(d, l) || len(d) != len(l) {
			t.Errorf("%s: %+v, %v", name, d, e)
		}
	}
}

func TestWrong(t *testing.T) { // P5.1 and P5.2
	for name, l := range wrong() {
		if e := keystore.Check(l); e != api.ErrKeystore {
			t.Errorf("%s: %v", name, e)
		}
		if b, e := keystore.Encode(l); e != api.ErrKeystore || len(b) > 0 {
			t.Errorf("%s: %v", name, e)
		}
		if m, e := keystore.Merge(l, nil); e != api.ErrKeystore || len(m) > 0 {
			t.Errorf("%s: %v", name, e)
		}
		if m, e := keystore.Merge(store(), l); e != api.ErrKeystore || len(m) > 0 {
			t.Errorf("%s: %v", name, e)
		}
		b, _ := der.Encode(element(l))
		if name == "a certificate" {
			continue // it has no bytes
		}
		if d, e := keystore.Decode(b); e != api.ErrKeystore || len(d) > 0 {
			t.Errorf("%s: %v, %v", name, d, e)
		}
	}
}

func TestLimit(t *testing.T) { // P5.1
	l := []api.Entry{entry("a", 1), entry("b", 1), entry("c", 1)}
	for i := range l {
		l[i].Chain = bytes9(l[i].Chain)[:8]
	}
	if e := keystore.Check(l); e != api.OK {
		t.Error(e)
	}
	if b, e := keystore.Encode(append(l, l...)[:3]); len(b) > api.MaxBytes || (e == api.OK) != (len(b) > 0) {
		t.Errorf("%d, %v", len(b), e)
	}
	for i := range 20 {
		x := entry(fmt.Sprintf("d%02d", i), 1)
		x.Chain = bytes9(x.Chain)[:8]
		l = append(l, x)
	}
	if b, e := keystore.Encode(l); e != api.ErrLimit || len(b) > 0 {
		t.Errorf("%d, %v", len(b), e)
	}
	if _, e := keystore.Decode(make([]byte, api.MaxBytes+1)); e != api.ErrLimit {
		t.Error(e)
	}
}

func TestForms(t *testing.T) { // P5.1: ErrForm comes before ErrKeystore
	v := element(store())
	change := func(at int, x ...api.Value) api.Value {
		e := append([]api.Value{}, v.Elements[0].Elements...)
		e = append(append(e[:at:at], x...), e[at+1:]...)
		return der.List(append([]api.Value{der.List(e)}, v.Elements[1:]...))
	}
	one, bad := der.List([]api.Value{der.Int(1)}), element(store()[:1]).Elements[0].Elements[4].Elements[0]
	bad = der.List([]api.Value{der.List(append([]api.Value{der.Int(-1)}, bad.Elements[0].Elements[1:]...)), bad.Elements[1]})
	forms := map[string]api.Value{
		"a number":                    der.Int(1),
		"an entry is a number":        der.List([]api.Value{der.Int(1)}),
		"alias":                       change(0, der.Int(1)),
		"key":                         change(1, one),
		"key is none":                 change(1, der.Int(1)),
		"keys are texts":              change(1, der.List([]api.Value{der.Text("a"), der.Int(1)})),
		"bits are a text":             change(1, der.List([]api.Value{der.Int(1), der.Text("a")})),
		"key id":                      change(2, der.Bool(true)),
		"secret":                      change(3, der.Int(1)),
		"chain":                       change(4, der.Int(1)),
		"chain of numbers":            change(4, one),
		"form behind a bad one":       change(4, der.List([]api.Value{bad, one})),
		"four":                        change(4),
		"six":                         change(4, der.List(nil), der.List(nil)),
		"no entry and an entry wrong": der.List([]api.Value{change(4, der.List([]api.Value{bad})).Elements[0], one}),
	}
	for name, v := range forms {
		b, _ := der.Encode(v)
		if l, e := keystore.Decode(b); e != api.ErrForm || len(l) > 0 {
			t.Errorf("%s: %v, %v", name, l, e)
		}
	}
	b, _ := der.Encode(change(4, der.List([]api.Value{bad})))
	if l, e := keystore.Decode(b); e != api.ErrKeystore || len(l) > 0 {
		t.Errorf("%v, %v", l, e)
	}
	if _, e := keystore.Decode([]byte{48, 1}); e != api.ErrForm {
		t.Error(e)
	}
}

func TestFind(t *testing.T) { // P5.2
	l := store()
	l = append(l, entry("a", 9))
	if e, ok := keystore.Find(l, "a"); !ok || e.KeyId != 1 {
		t.Errorf("%v, %v", e, ok)
	}
	if e, ok := keystore.Find(l, "b."); !ok || !keystore.Same([]api.Entry{e}, l[2:3]) {
		t.Errorf("%v, %v", e, ok)
	}
	if e, ok := keystore.Find(l, "c"); ok || !keystore.Same([]api.Entry{e}, make([]api.Entry, 1)) {
		t.Errorf("%v, %v", e, ok)
	}
}

func TestMerge(t *testing.T) { // P5.2
	a := []api.Entry{entry("a", 1), entry("b", 2)}
	b := []api.Entry{entry("b", 3), entry("c", 4)}
	want := []api.Entry{entry("a", 1), entry("b", 3), entry("c", 4)}
	if l, e := keystore.Merge(a, b); e != api.OK || !keystore.Same(l, want) {
		t.Errorf("%v, %v", l, e)
	}
	if l, e := keystore.Merge(a, a); e != api.OK || !keystore.Same(l, a) {
		t.Errorf("%v, %v", l, e)
	}
	if l, e := keystore.Merge(nil, nil); e != api.OK || len(l) > 0 {
		t.Errorf("%v, %v", l, e)
	}
	if l, e := keystore.Merge(many(0, 40), many(20, 64)); e != api.OK || !keystore.Same(l, many(0, 64)) {
		t.Errorf("%v, %v", l, e)
	}
	if l, e := keystore.Merge(many(0, 40), many(25, 65)); e != api.ErrLimit || len(l) > 0 {
		t.Errorf("%v, %v", l, e)
	}
	c := []api.Entry{entry("a", 6), entry("c", 5)}
	ab, _ := keystore.Merge(a, b)
	bc, _ := keystore.Merge(b, c)
	l, _ := keystore.Merge(ab, c)
	if m, e := keystore.Merge(a, bc); e != api.OK || !keystore.Same(l, m) {
		t.Errorf("%v, %v", l, m)
	}
}

func TestSame(t *testing.T) { // P5.2
	for name, f := range map[string]func([]api.Entry){
		"alias":  func(l []api.Entry) { l[0].Alias = "0" },
		"key":    func(l []api.Entry) { l[0].Key.Bits++ },
		"key id": func(l []api.Entry) { l[0].KeyId++ },
		"secret": func(l []api.Entry) { l[0].Secret = false },
		"chain":  func(l []api.Entry) { l[0].Chain = l[0].Chain[:1] },
		"serial": func(l []api.Entry) { l[0].Chain[1].Serial++ },
	} {
		if l := with(f); keystore.Same(l, store()) || !keystore.Same(l, l) {
			t.Error(name)
		}
	}
	if keystore.Same(store(), store()[:2]) || !keystore.Same(nil, []api.Entry{}) {
		t.Error("lengths")
	}
}

func TestMemory(t *testing.T) { // R3
	a, b := store(), []api.Entry{entry("b", 2), entry("c", 3)}
	bytes, _ := keystore.Encode(a)
	apart(t, "Encode", func() []byte { b, _ := keystore.Encode(a); return b }, a)
	apart(t, "Decode", func() []api.Entry { l, _ := keystore.Decode(bytes); return l }, bytes)
	apart(t, "Find", func() api.Entry { e, _ := keystore.Find(a, "a"); return e }, a)
	apart(t, "Merge", func() []api.Entry { l, _ := keystore.Merge(a, b); return l }, a, b)
	apart(t, "Merge itself", func() []api.Entry { l, _ := keystore.Merge(a, a); return l }, a)
}
