package certificate

import (
	"cipherplan/api"
	"cipherplan/der"
)

// list returns the element of a list.
func list(l ...api.Value) api.Value {
	return der.List(l)
}

// numbers returns the element of a list of numbers.
func numbers(l ...int) api.Value {
	var v []api.Value
	for _, n := range l {
		v = append(v, der.Int(n))
	}
	return der.List(v)
}

// texts returns the element of a list of texts.
func texts(l []string) api.Value {
	var v []api.Value
	for _, s := range l {
		v = append(v, der.Text(s))
	}
	return der.List(v)
}

// signed returns the element whose bytes are signed.
func signed(c api.Certificate) api.Value {
	return list(
		der.Int(c.Serial),
		der.Text(c.Issuer),
		der.Text(c.Subject),
		numbers(c.Key.Alg, c.Key.Bits),
		der.Int(c.KeyId),
		numbers(c.Hash.Alg, c.Hash.Bits),
		der.Int(c.From),
		der.Int(c.To),
		der.Bool(c.Authority),
		der.Int(c.Path),
		texts(c.Names),
	)
}

// read returns the certificate, valid or not, of an element.
func read(v api.Value) (c api.Certificate, ok bool) {
	parts, e := der.AsList(v)
	if e != api.OK || len(parts) != 2 {
		return api.Certificate{}, false
	}
	fields, e := der.AsList(parts[0])
	readers := [...]func(api.Value) bool{
		number(&c.Serial),
		word(&c.Issuer),
		word(&c.Subject),
		pair(&c.Key.Alg, &c.Key.Bits),
		number(&c.KeyId),
		pair(&c.Hash.Alg, &c.Hash.Bits),
		number(&c.From),
		number(&c.To),
		truth(&c.Authority),
		number(&c.Path),
		words(&c.Names),
	}
	if e != api.OK || len(fields) != len(readers) {
		return api.Certificate{}, false
	}
	for i, f := range readers {
		if !f(fields[i]) {
			return api.Certificate{}, false
		}
	}
	if !pair(&c.Seal.Key, &c.Seal.Sum)(parts[1]) {
		return api.Certificate{}, false
	}
	return c, true
}

// number returns a function that reads a number.
func number(to *int) func(api.Value) bool {
	return func(v api.Value) bool {
		n, e := der.AsInt(v)
		*to = n
		return e == api.OK
	}
}

// word returns a function that reads a text.
func word(to *string) func(api.Value) bool {
	return func(v api.Value) bool {
		s, e := der.AsText(v)
		*to = s
		return e == api.OK
	}
}

// truth returns a function that reads a truth value.
func truth(to *bool) func(api.Value) bool {
	return func(v api.Value) bool {
		b, e := der.AsBool(v)
		*to = b
		return e == api.OK
	}
}

// pair returns a function that reads a list of two numbers.
func pair(first, second *int) func(api.Value) bool {
	return func(v api.Value) bool {
		l, e := der.AsList(v)
		return e == api.OK && len(l) == 2 && number(first)(l[0]) && number(second)(l[1])
	}
}

// words returns a function that reads a list of texts.
func words(to *[]string) func(api.Value) bool {
	return func(v api.Value) bool {
		l, e := der.AsList(v)
		for _, v := range l {
			var s string
			if !word(&s)(v) {
				return false
			}
			*to = append(*to, s)
		}
		return e == api.OK
	}
}
