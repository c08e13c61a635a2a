package keystore

import (
	"cipherplan/api"
	"cipherplan/certificate"
	"cipherplan/der"
)

// element returns the element of an entry of a valid key store.
func element(e api.Entry) api.Value {
	var chain []api.Value
	for _, c := range e.Chain {
		b, _ := certificate.Encode(c)
		v, _ := der.Decode(b)
		chain = append(chain, v)
	}
	key := der.List([]api.Value{der.Int(e.Key.Alg), der.Int(e.Key.Bits)})
	return der.List([]api.Value{der.Text(e.Alias), key, der.Int(e.KeyId), der.Bool(e.Secret), der.List(chain)})
}

// read returns the entry, valid or not, of an element.
func read(v api.Value) (api.Entry, bool) {
	l, e := der.AsList(v)
	if e != api.OK || len(l) != 5 {
		return api.Entry{}, false
	}
	alias, e1 := der.AsText(l[0])
	key, e2 := readUse(l[1])
	id, e3 := der.AsInt(l[2])
	secret, e4 := der.AsBool(l[3])
	chain, e5 := readChain(l[4])
	for _, e := range []api.Errno{e1, e2, e3, e4, e5} {
		if e != api.OK {
			return api.Entry{}, false
		}
	}
	return api.Entry{Alias: alias, Key: key, KeyId: id, Secret: secret, Chain: chain}, true
}

// readUse returns the use of a list of two numbers.
func readUse(v api.Value) (api.Use, api.Errno) {
	l, e := der.AsList(v)
	if e != api.OK || len(l) != 2 {
		return api.Use{}, api.ErrForm
	}
	alg, e1 := der.AsInt(l[0])
	bits, e2 := der.AsInt(l[1])
	if e1 != api.OK || e2 != api.OK {
		return api.Use{}, api.ErrForm
	}
	return api.Use{Alg: alg, Bits: bits}, api.OK
}

// readChain returns the certificates of a list. For one that is not valid the zero one stands, which is not, either: this error comes later.
func readChain(v api.Value) ([]api.Certificate, api.Errno) {
	l, e := der.AsList(v)
	if e != api.OK {
		return nil, api.ErrForm
	}
	var chain []api.Certificate
	for _, v := range l {
		b, _ := der.Encode(v)
		c, e := certificate.Decode(b)
		if e == api.ErrForm {
			return nil, e
		}
		chain = append(chain, c)
	}
	return chain, api.OK
}
